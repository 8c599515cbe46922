"""Trees, and the deeds that change them."""

from stillread.base.checks import is_number
from stillread.base.names import is_cells, is_name
from stillread.errors import InvalidDeed, InvalidTree, Refused

MOST_LENGTH = 996
MOST_NEW = 48


def is_tree(value):
    """Whether the value is a tree."""
    if not isinstance(value, dict):
        return False
    return all([is_name(name) and is_entry(cells) for name, cells in value.items()])


def is_entry(value):
    """Whether the value is a tuple of at most 996 cells."""
    return is_cells(value) and len(value) <= MOST_LENGTH


def are_new(value):
    """Whether the value is a tuple of at most 48 cells."""
    return is_cells(value) and len(value) <= MOST_NEW


def is_put(value):
    """Whether the value is a put, but for its word."""
    return len(value) == 3 and is_name(value[1]) and are_new(value[2])


def is_patch(value):
    """Whether the value is a patch, but for its word."""
    if len(value) != 5 or not is_name(value[1]) or not are_new(value[4]):
        return False
    return is_number(value[2], 0, MOST_LENGTH) and is_number(value[3], 0, MOST_LENGTH)


def is_drop(value):
    """Whether the value is a drop, but for its word."""
    return len(value) == 2 and is_name(value[1])


def is_rename(value):
    """Whether the value is a rename, but for its word."""
    return len(value) == 3 and is_name(value[1]) and is_name(value[2]) and value[1] != value[2]


JUDGES = {"put": is_put, "patch": is_patch, "drop": is_drop, "rename": is_rename}


def is_deed(value):
    """Whether the value is a deed."""
    if not isinstance(value, tuple) or not value or not isinstance(value[0], str) or value[0] not in JUDGES:
        return False
    judge = JUDGES[value[0]]
    return judge(value)


def check_tree(tree):
    """InvalidTree unless it is a tree."""
    if not is_tree(tree):
        raise InvalidTree("no tree")


def check_deed(deed):
    """InvalidDeed unless it is a deed."""
    if not is_deed(deed):
        raise InvalidDeed("no deed")


def sorted_tree(tree):
    """A new dict of the entries, names ascending."""
    return {name: tree[name] for name in sorted(tree)}


def done(tree, deed):
    """The tree behind the deed."""
    reason = refusal(tree, deed)
    if reason is not None:
        raise Refused(reason)
    behind = dict(tree)
    do_deed(behind, deed, put_cells(deed))
    return sorted_tree(behind)


def refusal(tree, deed):
    """The reason for which the deed is refused, None if it is not."""
    check_tree(tree)
    check_deed(deed)
    return refusal_of(tree, deed)


def refusal_of(tree, deed):
    """The reason for which a checked deed is refused, None if it is not."""
    word, name = deed[0], deed[1]
    if word == "put":
        return None
    if name not in tree:
        return ("gone", name)
    if word == "rename" and deed[2] in tree:
        return ("there", deed[2])
    if word == "patch":
        return patch_refusal(deed, len(tree[name]))
    return None


def patch_refusal(deed, length):
    """The reason for which a patch of an entry of this length is refused, None if it is not."""
    word, name, at, out, cells = deed
    if at > length or out > length - at:
        return ("place", name)
    if length - out + len(cells) > MOST_LENGTH:
        return ("long", name)
    return None


def do_deed(tree, deed, cells):
    """Changes the dict of a tree by a deed that is not refused.

    `cells` stand for its new cells: what is told of each of them can stand there as well.
    """
    word, name = deed[0], deed[1]
    if word == "put":
        tree[name] = cells
    elif word == "patch":
        at, out = deed[2], deed[3]
        tree[name] = tree[name][:at] + cells + tree[name][at + out:]
    else:
        entry = tree.pop(name)
        if word == "rename":
            tree[deed[2]] = entry


def entry_deeds(name, cells):
    """The list of the put and the patches that make an entry, each with as many cells as it can have."""
    deeds = [("put", name, cells[:MOST_NEW])]
    for at in range(MOST_NEW, len(cells), MOST_NEW):
        deeds.append(("patch", name, at, 0, cells[at:at + MOST_NEW]))
    return deeds


def new_cells(deed):
    """The cells that the deed puts in."""
    check_deed(deed)
    return put_cells(deed)


def put_cells(deed):
    """The cells that a checked deed puts in."""
    return deed[-1] if deed[0] in ("put", "patch") else ()


def touched(deed):
    """The ascending tuple of the names that the deed tells."""
    check_deed(deed)
    names = deed[1:] if deed[0] == "rename" else deed[1:2]
    return tuple(sorted(names))
