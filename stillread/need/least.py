"""The fewest further frames that tell what is wanted, and the fewest frames whose loss hides a cell."""

from stillread.base.checks import are_indices, check_number, is_ascending, is_number
from stillread.base.names import check_name
from stillread.errors import InvalidNumber, InvalidOperation, Refused, UnknownName
from stillread.lots.columns import filling_row
from stillread.lots.gather import cells_told, check_lot, length_of, lots_in, payloads_of, refuse_clash, rows_of
from stillread.lots.spread import MOST_FRAMES, ROW, check_frames
from stillread.paper.checker import MOST_PLACE
from stillread.plain.histories import check_history, check_save_name, is_save_name, named_row, new_origins, rows_for
from stillread.plain.trees import do_deed, put_cells
from stillread.read.constraints import clash_in_frames
from stillread.read.views import View, check_named, said_of


def check_wanted(lot, wanted):
    """The errors for a lot and the indices of some of its new cells."""
    check_lot(lot)
    if not are_indices(wanted, length_of(lot)):
        raise InvalidOperation("no ascending tuple of indices of new cells")
    refuse_clash(lot)


def further_indices(lot, wanted):
    """The fewest further indices behind which all wanted new cells are told."""
    check_wanted(lot, wanted)
    return least_indices(lot, wanted)


def least_indices(lot, wanted):
    """The same for a lot without a clash."""
    own, filled = open_rows(lot, wanted)
    rows, last = sorted(set(own + filled)), rows_of(lot) - 1
    if not rows:
        return ()
    there = payloads_of(lot)
    others = [index for index in range(lot[0][4]) if index not in there]
    choices = [others[:last + 1 - len(lot)], rows]
    if last in others and last not in own:
        # Without it the filling of the last row is one more known place.
        more = [index for index in others if index != last and index not in own]
        choices.append(sorted(own + more[:max(0, last - len(lot) - len(own))]))
    return tuple(min(choices, key=len))


def open_rows(lot, wanted):
    """The rows of those wanted new cells that are open: in columns without filling, and in the others."""
    cells = cells_told(lot)
    own, filled = {}, {}
    for at in [one for one in wanted if cells[one] is None]:
        rows = own if filling_row(length_of(lot), at % ROW) is None else filled
        rows[at // ROW] = True
    return (list(own), list(filled))


def are_further_indices(lot, wanted, value):
    """Whether the value is such a tuple."""
    check_wanted(lot, wanted)
    return are_least_indices(lot, wanted, value)


def are_least_indices(lot, wanted, value):
    """The same for a lot without a clash."""
    there = payloads_of(lot)
    if not are_indices(value, lot[0][4]) or any([index in there for index in value]):
        return False
    if len(value) != len(least_indices(lot, wanted)):
        return False
    return all([is_told_by(lot, list(there) + list(value), at) for at in wanted])


def is_told_by(lot, indices, at):
    """Whether a new cell is told by the frames of a lot with these indices."""
    filling = filling_row(length_of(lot), at % ROW)
    places = set(indices if filling is None else indices + [filling])
    return at // ROW in places or len(places) >= rows_of(lot)


def least_further(frames, save, name):
    """The fewest further frames behind which a whole entry is told, None if there are none such."""
    wanted = wanted_cells(frames, save, name)
    if wanted is None:
        return None
    lots = lots_in(frames)
    return tuple([one + (index,) for one in sorted(wanted) for index in least_indices(lots[one], wanted[one])])


def wanted_cells(frames, save, name):
    """The dict from the saves that are there to those of their new cells that an entry has.

    None if some cell of it lies below a gap. With the errors for all three.
    """
    check_frames(frames)
    check_save_name(save)
    check_name(name)
    if clash_in_frames(frames) is not None:
        raise Refused(("clash",))
    view = View(frames)
    check_named(view, save)
    found = said_of(view, save, name)
    if found is None or not found[0][0]:
        raise Refused(("entry",))
    outline = view.outlines[save]
    # An entry of which no deed of the way speaks lies below as it is.
    length = found[0][1]
    row = outline.entries.get(name, ((("below", name), 0, length),) if length else ())
    return new_cells_in(row)


def new_cells_in(row):
    """The dict from saves to those of their new cells that a row has, None if some cell of it lies below."""
    wanted = {}
    for (word, save), first, many in row:
        if word == "below":
            return None
        wanted.setdefault(save, []).extend(list(range(first, first + many)))
    return {save: tuple(sorted(indices)) for save, indices in wanted.items()}


def is_triple(value):
    """Whether the value tells a frame by hand, number and index."""
    return (isinstance(value, tuple) and len(value) == 3 and is_save_name(value[:2])
            and is_number(value[2], 0, MOST_FRAMES - 1))


def are_triples(value):
    """Whether the value is an ascending tuple of such triples."""
    return isinstance(value, tuple) and all([is_triple(one) for one in value]) and is_ascending(value)


def by_saves(triples):
    """The dict from saves to the ascending tuples of the indices of their frames."""
    indices = {}
    for triple in triples:
        indices[triple[:2]] = indices.get(triple[:2], ()) + triple[2:]
    return indices


def is_least_further(frames, save, name, value):
    """Whether the value is such a tuple, or None if there are none such."""
    wanted = wanted_cells(frames, save, name)
    if wanted is None:
        return value is None
    if not are_triples(value):
        return False
    told = by_saves(value)
    if not all([one in wanted for one in told]):
        return False
    lots = lots_in(frames)
    return all([are_least_indices(lots[one], cells, told.get(one, ())) for one, cells in wanted.items()])


def entry_origins(history, save, name):
    """The row of a save and the origins of the cells of an entry of its version, with the errors for checked names."""
    row = named_row(history, save)
    tree = {}
    for one in row:
        do_deed(tree, one[3], new_origins(one))
    if name not in tree:
        raise UnknownName(name)
    return (row, tree[name])


def asked_origin(history, save, name, at):
    """The row of a save and the origin of a cell of its version, with the errors for all arguments."""
    check_history(history)
    check_save_name(save)
    check_name(name)
    check_number(at, 0, MOST_PLACE)
    row, origins = entry_origins(history, save, name)
    if at >= len(origins):
        raise InvalidNumber(at)
    return (row, origins[at])


def row_from(row, origin):
    """The saves of a row from the one that put a new cell in."""
    names = [one[:2] for one in row]
    return row[names.index(origin[:2]):]


def least_number(saves):
    """The fewest frames without which a cell is not told, by the saves of the row from its origin on."""
    own = saves[0][4] - rows_for(saves[0][3]) + 1
    return min([own] + [one[4] for one in saves[1:]])


def triples_of(save, indices):
    """The triples of the frames of a save with these indices."""
    return tuple([save[:2] + (index,) for index in indices])


def least_loss(history, save, name, at):
    """The fewest frames without which, all others being there, a cell is not told."""
    row, origin = asked_origin(history, save, name, at)
    saves = row_from(row, origin)
    many = least_number(saves)
    for one in saves[1:]:
        if one[4] == many:
            return triples_of(one, list(range(many)))
    own, filling = places_of(saves[0], origin[2])
    others = [index for index in range(saves[0][4]) if index not in (own, filling)]
    return triples_of(saves[0], sorted([own] + others[:many - 1]))


def places_of(save, index):
    """The row of a new cell of a save, and that of the filling in its column, None without filling."""
    return (index // ROW, filling_row(len(put_cells(save[3])), index % ROW))


def is_least_loss(history, save, name, at, value):
    """Whether the value is such a tuple."""
    row, origin = asked_origin(history, save, name, at)
    saves = row_from(row, origin)
    many = least_number(saves)
    if not are_triples(value) or len(value) != many:
        return False
    if any([value == triples_of(one, list(range(one[4]))) for one in saves[1:]]):
        return True
    if many != saves[0][4] - rows_for(saves[0][3]) + 1 or not is_of(saves[0], value):
        return False
    own, filling = places_of(saves[0], origin[2])
    indices = [triple[2] for triple in value]
    return own in indices and filling not in indices


def is_of(save, triples):
    """Whether all triples are those of frames of a save."""
    return all([triple[:2] == save[:2] and triple[2] < save[4] for triple in triples])


def borne(history, save, name):
    """The greatest number of frames that can be lost, whichever they are, so that a whole entry stays told."""
    check_history(history)
    check_save_name(save)
    check_name(name)
    row, origins = entry_origins(history, save, name)
    if not origins:
        raise Refused(("empty",))
    first = {origin[:2]: origin for origin in origins}
    return min([least_number(row_from(row, origin)) for origin in first.values()]) - 1
