"""Saves and histories: their versions, and where the cells of these come from."""

from stillread.base.checks import is_ascending, is_number
from stillread.base.names import check_name
from stillread.errors import InvalidHistory, InvalidOperation, InvalidSave, UnknownName
from stillread.plain.sequences import hand_pairs, is_ring, is_sequence, ring_in, sequence_of
from stillread.plain.trees import check_deed, do_deed, is_deed, put_cells, refusal_of, sorted_tree

MOST_FRAMES = 16
ROW = 6
MOST_HAND = 996


def is_save_name(value):
    """Whether the value is the name of a save."""
    return isinstance(value, tuple) and len(value) == 2 and all([is_number(part, 1, MOST_HAND) for part in value])


def has_form(value):
    """Whether the value is a tuple of the form of a save, n being from 1 to 16."""
    if not isinstance(value, tuple) or len(value) != 5 or not is_save_name(value[:2]):
        return False
    hand, number, base, deed, n = value
    return (base is None or is_save_name(base)) and is_deed(deed) and is_number(n, 1, MOST_FRAMES)


def is_save(value):
    """Whether the value is a tuple of the form of a save, n being from k to 16."""
    return has_form(value) and value[4] >= rows_for(value[3])


def row_count(length):
    """How many rows so many new cells have, at least 1."""
    return max(1, (length + ROW - 1) // ROW)


def rows_for(deed):
    """How many rows the new cells of a checked deed have, at least 1."""
    return row_count(len(put_cells(deed)))


def rows_number(deed):
    """How many rows the new cells of a deed have, from 1 to 8."""
    check_deed(deed)
    return rows_for(deed)


def is_history(value):
    """Whether the value is a history."""
    return history_fault(value) is None


def history_fault(value):
    """The first fault of a value that is to be a history, None if there is none."""
    if not isinstance(value, tuple):
        return (0, "form")
    fault = form_fault(value)
    sound = value if fault is None else value[:fault[0]]
    refused, aheads = deeds_walked(sound)
    return fault if refused is None else refused


def form_fault(saves):
    """The first fault that is no refusal of a deed."""
    last = {}
    names = {}
    for index, save in enumerate(saves):
        word = save_fault(save, last, names)
        if word is not None:
            return (index, word)
        last[save[0]] = save[1]
        names[save[:2]] = True
    return None


def save_fault(save, last, names):
    """The word for what is wrong with a save behind others, whose last numbers and names are told."""
    if not has_form(save):
        return "form"
    hand, number, base, deed, n = save
    if number <= last.get(hand, 0):
        return "number"
    if base is not None and base not in names:
        return "base"
    if n < rows_for(deed):
        return "frames"
    return None


def deeds_walked(saves):
    """The first refusal among saves without other faults, and the lengths ahead of the deeds till then."""
    uses = base_uses(saves)
    trees = {}
    aheads = []
    for index, save in enumerate(saves):
        hand, number, base, deed, n = save
        tree = taken_tree(trees, uses, base)
        reason = refusal_of(tree, deed)
        if reason is not None:
            return ((index, reason), aheads)
        aheads.append(0 if deed[0] == "put" else len(tree[deed[1]]))
        do_deed(tree, deed, put_cells(deed))
        if uses[(hand, number)] > 0:
            trees[(hand, number)] = tree
    return (None, aheads)


def lengths_ahead(history):
    """For each save of a checked history the length that the entry has ahead of its deed, 0 for a put."""
    refused, aheads = deeds_walked(history)
    return aheads


def taken_tree(trees, uses, base):
    """A dict of the tree of a base that one more of the saves that use it may change."""
    if base is None:
        return {}
    uses[base] -= 1
    # The last save takes the dict itself, so that a long row of saves copies none.
    return trees.pop(base) if uses[base] == 0 else dict(trees[base])


def base_uses(saves):
    """The dict from the names of all saves to how many saves have them as their base."""
    uses = {save[:2]: 0 for save in saves}
    for save in saves:
        if save[2] is not None:
            uses[save[2]] += 1
    return uses


def check_history(history):
    """InvalidHistory unless it is a history."""
    fault = history_fault(history)
    if fault is not None:
        raise InvalidHistory(f"no history, for the save {fault[0]}: {fault[1]}")


def check_save_name(save):
    """InvalidSave unless it is the name of a save."""
    if not is_save_name(save):
        raise InvalidSave("no name of a save")


def named_row(history, save):
    """The list of the saves of the row of a name, the first one first."""
    known = {one[:2]: one for one in history}
    if save not in known:
        raise UnknownName(save)
    row = []
    while save is not None:
        row.append(known[save])
        save = known[save][2]
    return row[::-1]


def row_to(history, save):
    """The names of the row of a save, the first one first."""
    check_history(history)
    check_save_name(save)
    return tuple([one[:2] for one in named_row(history, save)])


def version(history, save):
    """The tree behind the deeds of the row of a save."""
    check_history(history)
    check_save_name(save)
    return version_in(history, save)


def version_in(history, save):
    """The version of a save of a checked history."""
    tree = {}
    for one in named_row(history, save):
        do_deed(tree, one[3], put_cells(one[3]))
    return sorted_tree(tree)


def origins(history, save, name):
    """The origins (hand, number, index) of the cells of an entry of a version."""
    check_history(history)
    check_save_name(save)
    check_name(name)
    tree = {}
    for one in named_row(history, save):
        do_deed(tree, one[3], new_origins(one))
    if name not in tree:
        raise UnknownName(name)
    return tree[name]


def new_origins(save):
    """The origins of the new cells of a save."""
    return tuple([(save[0], save[1], index) for index in range(len(put_cells(save[3])))])


def versions(history):
    """The dict from the names of all saves to their versions."""
    check_history(history)
    trees = {}
    for hand, number, base, deed, n in history:
        tree = {} if base is None else dict(trees[base])
        do_deed(tree, deed, put_cells(deed))
        trees[(hand, number)] = sorted_tree(tree)
    return {save: trees[save] for save in sorted(trees)}


def heads(history):
    """The ascending tuple of the names of the saves that are no bases."""
    check_history(history)
    uses = base_uses(history)
    return tuple([save for save in sorted(uses) if uses[save] == 0])


def common_base(history, one, other):
    """The last save that is in the rows of both, None if there is none."""
    check_history(history)
    check_save_name(one)
    check_save_name(other)
    row, others = named_row(history, one), named_row(history, other)
    both = [save for save, same in zip(row, others) if save == same]
    return both[-1][:2] if both else None


def check_names(names):
    """InvalidSave unless it is an ascending tuple of names of saves."""
    if not isinstance(names, tuple) or not all([is_save_name(name) for name in names]) or not is_ascending(names):
        raise InvalidSave("no ascending tuple of names of saves")


def are_names_of(value, names):
    """Whether the value is a tuple of some of the names."""
    known = {name: True for name in names}
    return isinstance(value, tuple) and all([is_save_name(name) and name in known for name in value])


def check_pairs(names, pairs):
    """InvalidOperation unless it is a tuple of pairs of the names."""
    if not isinstance(pairs, tuple) or not all([isinstance(pair, tuple) and len(pair) == 2 for pair in pairs]):
        raise InvalidOperation("no tuple of pairs")
    if not are_names_of(tuple([name for pair in pairs for name in pair]), names):
        raise InvalidOperation("no tuple of pairs of these names")


def time_sequence(names, pairs):
    """A sequence of the names, pairs and numbers ascending, or a ring that forbids any."""
    check_names(names)
    check_pairs(names, pairs)
    every = list(pairs) + hand_pairs(names)
    sequence = sequence_of(names, every)
    if len(sequence) == len(names):
        return tuple(sequence)
    return ("ring", ring_in(names, every, sequence))


def is_time_sequence(names, pairs, value):
    """Whether the value is such a sequence, or such a ring."""
    check_names(names)
    check_pairs(names, pairs)
    if are_names_of(value, names):
        return is_sequence(names, list(pairs) + hand_pairs(names), value)
    if not isinstance(value, tuple) or len(value) != 2 or value[0] != "ring":
        return False
    return are_names_of(value[1], names) and value[1] != () and is_ring(pairs, value[1])
