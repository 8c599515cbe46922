"""What a lot, some frames of one save, tells of its new cells."""

from stillread.base.checks import check_number, is_ascending, is_number
from stillread.base.names import PRIME, is_cell, is_cells
from stillread.base.polys import evaluated, interpolated, is_poly, with_roots
from stillread.errors import InvalidBody, Refused
from stillread.lots.columns import column_places, is_poly_at, number_at, off_place, paper_at, poly_through, told_numbers
from stillread.lots.spread import MOST_FRAMES, ROW, check_frames, is_body, marks_in, save_in, spread
from stillread.plain.histories import row_count


def is_lot(value):
    """Whether the value is a lot."""
    if not isinstance(value, tuple) or not value or not all([is_body(body) for body in value]):
        return False
    return is_ascending(value) and all([marks_in(body) == marks_in(value[0]) for body in value])


def check_lot(lot):
    """InvalidBody unless it is a lot."""
    if not is_lot(lot):
        raise InvalidBody("no lot")


def lots_of(frames):
    """The dict from the names of all saves with frames to the ascending tuples of their bodies."""
    check_frames(frames)
    return lots_in(frames)


def lots_in(frames):
    """The same of checked frames, however many."""
    lots = {}
    for body in sorted(set(frames)):
        lots.setdefault(save_in(body), []).append(body)
    return {save: tuple(lots[save]) for save in sorted(lots)}


def length_of(lot):
    """How many new cells there are."""
    return lot[0][12]


def rows_of(lot):
    """How many rows the new cells have."""
    return row_count(length_of(lot))


def payloads_of(lot):
    """The dict from the indices of the bodies to their payloads."""
    return {body[3]: body[14:] for body in lot}


def places_in(lot, column):
    """The known places of a column of a lot in which no two bodies have one index."""
    return column_places(payloads_of(lot), length_of(lot), column)


def index_clash(lot):
    """The clash of two bodies with one index, None if there is none."""
    indices = [body[3] for body in lot]
    twice = [index for index, other in zip(indices, indices[1:]) if index == other]
    return ("index", twice[0]) if twice else None


def known_places(lot, column):
    """The dict from the known places of a column to what is known there."""
    check_lot(lot)
    check_number(column, 0, ROW - 1)
    found = index_clash(lot)
    if found is not None:
        raise Refused(found)
    return places_in(lot, column)


def lot_clash(lot):
    """A clash of a lot, None if there is none."""
    check_lot(lot)
    return clash_in(lot)


def clash_in(lot):
    """The clash of a checked lot, None if there is none."""
    found = index_clash(lot)
    if found is not None:
        return found
    many = rows_of(lot)
    for column in range(ROW):
        known = places_in(lot, column)
        place = off_place(known, many)
        if place is not None:
            return ("poly", column, tuple(list(known)[:many]), place, poly_through(known, many))
    return None


def is_lot_clash(lot, value):
    """Whether the value is a clash of a lot."""
    check_lot(lot)
    if not isinstance(value, tuple):
        return False
    if len(value) == 2 and value[0] == "index" and is_number(value[1], 0, MOST_FRAMES - 1):
        return [body[3] for body in lot].count(value[1]) > 1
    if len(value) != 5 or value[0] != "poly" or index_clash(lot) is not None:
        return False
    return is_poly_clash(lot, value[1:])


def is_poly_clash(lot, value):
    """Whether the value tells a column, known places, a further one, and a poly that is off there."""
    column, places, place, poly = value
    if not is_number(column, 0, ROW - 1):
        return False
    known = places_in(lot, column)
    if not is_poly_at(known, rows_of(lot), places, poly) or not is_number(place, 0, MOST_FRAMES - 1):
        return False
    # At the places of the poly it is not off, so this place is a further one.
    return place in known and evaluated(poly, place) != known[place]


def check_sound(lot):
    """InvalidBody unless it is a lot, Refused if it has a clash."""
    check_lot(lot)
    refuse_clash(lot)


def refuse_clash(lot):
    """Refused if a checked lot has a clash."""
    found = clash_in(lot)
    if found is not None:
        raise Refused(found)


def check_cell(lot, at):
    """The errors for a lot and the index of a new cell of it."""
    check_lot(lot)
    check_number(at, 0, length_of(lot) - 1)
    refuse_clash(lot)


def cell_answer(lot, at):
    """What is told of a new cell, with a paper; or a poly that shows it open."""
    check_cell(lot, at)
    known, many, row = places_in(lot, at % ROW), rows_of(lot), at // ROW
    cell = number_at(known, many, row)
    if cell is None:
        return ("open", with_roots(list(known)))
    return ("told", cell, paper_at(known, many, row))


def is_cell_paper(lot, at, cell, value):
    """Whether the value is a paper for this cell."""
    check_cell(lot, at)
    if not is_cell(cell) or not isinstance(value, tuple):
        return False
    return is_paper_at(places_in(lot, at % ROW), rows_of(lot), at // ROW, cell, value)


def is_paper_at(known, many, row, cell, value):
    """Whether the value, a tuple, is a paper that a column with such known places has the cell in the row."""
    if len(value) == 1 and value[0] == "own":
        return row in known and known[row] == cell
    if len(value) != 3 or value[0] != "poly":
        return False
    return is_poly_at(known, many, value[1], value[2]) and evaluated(value[2], row) == cell


def is_open_paper(lot, at, value):
    """Whether the value is a poly that shows the cell open."""
    check_cell(lot, at)
    if not is_poly(value) or len(value) > rows_of(lot):
        return False
    known = places_in(lot, at % ROW)
    return not any([evaluated(value, place) for place in known]) and evaluated(value, at // ROW) != 0


def told_cells(lot):
    """The new cells, None for each that is open."""
    check_sound(lot)
    return cells_told(lot)


def cells_told(lot):
    """The new cells that a lot without a clash tells, None for each that is open."""
    columns = columns_told(lot, rows_of(lot))
    return tuple([columns[at % ROW][at // ROW] for at in range(length_of(lot))])


def columns_told(lot, stop):
    """For each column of a lot without a clash what it has ahead of a place, None for what is open."""
    many = rows_of(lot)
    return [told_numbers(places_in(lot, column), many, list(range(stop))) for column in range(ROW)]


def told_payload(lot, index):
    """The payload of an index, None in the columns that do not tell it."""
    check_lot(lot)
    check_number(index, 0, lot[0][4] - 1)
    refuse_clash(lot)
    many = rows_of(lot)
    return tuple([number_at(places_in(lot, column), many, index) for column in range(ROW)])


def fitting_cells(lot):
    """Some new cells that the lot has."""
    check_sound(lot)
    return cells_by([poly_of(lot, column) for column in range(ROW)], length_of(lot))


def poly_of(lot, column):
    """A poly of degree below k through all known places of a column."""
    return poly_through(places_in(lot, column), rows_of(lot))


def cells_by(polys, length):
    """So many new cells whose columns have the values of the polys."""
    return tuple([evaluated(polys[at % ROW], at // ROW) for at in range(length)])


def is_fitting(lot, value):
    """Whether the value is a tuple of new cells that the lot has."""
    check_lot(lot)
    if not is_cells(value) or len(value) != length_of(lot):
        return False
    rows = spread(value, lot[0][4])
    return all([rows[body[3]] == body[14:] for body in lot])


def fit_number(lot):
    """How many tuples of new cells the lot has."""
    check_lot(lot)
    if clash_in(lot) is not None:
        return 0
    number = 1
    for column in range(ROW):
        for _ in range(rows_of(lot) - len(places_in(lot, column))):
            number *= PRIME
    return number


def unlike_cells(lot, at):
    """Two tuples of new cells that the lot has, unlike at an index."""
    check_cell(lot, at)
    column, many = at % ROW, rows_of(lot)
    known = places_in(lot, column)
    if number_at(known, many, at // ROW) is not None:
        raise Refused(("told",))
    polys = [poly_of(lot, other) for other in range(ROW)]
    cells = cells_by(polys, length_of(lot))
    other_number = (cells[at] + 1) % PRIME
    polys[column] = interpolated(tuple(list(known.items())) + ((at // ROW, other_number),))
    return (cells, cells_by(polys, length_of(lot)))


def are_unlike_cells(lot, at, value):
    """Whether the value is such a pair."""
    check_cell(lot, at)
    if not isinstance(value, tuple) or len(value) != 2 or not all([is_fitting(lot, cells) for cells in value]):
        return False
    return value[0][at] != value[1][at]
