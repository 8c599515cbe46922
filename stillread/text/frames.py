"""Frames: bodies of 20 cells, written as windows that each 20 of their cells tell."""

from stillread.base.checks import are_indices, check_number
from stillread.base.names import PRIME, is_cells
from stillread.base.polys import evaluated, numbers_by, place_weights, with_roots
from stillread.errors import InvalidBody, InvalidOperation
from stillread.text.cells import WINDOW_SIGNS, window_cells, window_text, windows

FRAME_CELLS = 40
BODY_CELLS = 20


def is_twenty(value):
    """Whether the value is a tuple of 20 cells, whatever these say."""
    return is_cells(value) and len(value) == BODY_CELLS


def check_twenty(body):
    """InvalidBody unless it is a tuple of 20 cells."""
    if not is_twenty(body):
        raise InvalidBody("no tuple of 20 cells")


def check_indices(indices):
    """InvalidOperation unless it is an ascending tuple of integers from 0 to 39."""
    if not are_indices(indices, FRAME_CELLS):
        raise InvalidOperation("no ascending tuple of integers from 0 to 39")


def place_of(index):
    """The place at which the poly of a frame has the cell with this index."""
    return (index + 1) * (index + 1) % PRIME


def further_rows():
    """For each cell behind the body the numbers that make it of the cells of the body."""
    places = [place_of(index) for index in range(BODY_CELLS)]
    weights = place_weights(places)
    return [numbers_by(places, weights, place_of(index)) for index in range(BODY_CELLS, FRAME_CELLS)]


def further_cell(body, row):
    """The cell behind the body for one of the rows."""
    return sum([cell * number for cell, number in zip(body, row)]) % PRIME


def spread_cells(body, rows):
    """The 40 cells of the frame of a checked body."""
    return body + tuple([further_cell(body, row) for row in rows])


def is_frame(cells, rows):
    """Whether 40 cells are those of a frame."""
    body = cells[:BODY_CELLS]
    for cell, row in zip(cells[BODY_CELLS:], rows):
        if cell != further_cell(body, row):
            return False
    return True


def frame_cells(body):
    """The 40 cells of the frame of a body."""
    check_twenty(body)
    return spread_cells(body, further_rows())


def made_frame(body):
    """The text of the frame of a body."""
    check_twenty(body)
    return frames_text((body,))


def frames_text(bodies):
    """The texts of the frames of checked bodies, one behind the other."""
    rows = further_rows()
    return "".join([window_text(spread_cells(body, rows)) for body in bodies])


def told_frame(text):
    """The body of the frame whose text it is, None if it is that of none."""
    cells = window_cells(text)
    if cells is None or not is_frame(cells, further_rows()):
        return None
    return cells[:BODY_CELLS]


def found_frames(text):
    """The pairs (place, body) of all frames that are found in a text."""
    rows = further_rows()
    return tuple([(place, cells[:BODY_CELLS]) for place, cells in windows(text) if is_frame(cells, rows)])


def bodies_in(text):
    """The ascending tuple of the bodies of all frames that are found, each once."""
    return tuple(sorted({found[1] for found in found_frames(text)}))


def agreeing(one, other):
    """The indices at which the frames of both bodies have equal cells."""
    check_twenty(one)
    check_twenty(other)
    rows = further_rows()
    cells, others = spread_cells(one, rows), spread_cells(other, rows)
    return tuple([index for index in range(FRAME_CELLS) if cells[index] == others[index]])


def check_few(body, indices):
    """The errors for a body and indices at which another frame can agree with its own."""
    check_twenty(body)
    check_indices(indices)
    if len(indices) >= BODY_CELLS:
        raise InvalidOperation("no other frame agrees at 20 indices or more")


def other_body(body, indices):
    """A body whose frame agrees with that of the body at just these indices."""
    check_few(body, indices)
    # A poly of degree below 20 that is 0 at these places and nowhere else.
    change = with_roots([place_of(index) for index in indices])
    changes = [evaluated(change, place_of(index)) for index in range(BODY_CELLS)]
    return tuple([(cell + more) % PRIME for cell, more in zip(body, changes)])


def is_other_body(body, indices, value):
    """Whether the value is a body whose frame agrees with that of the body at just these."""
    check_few(body, indices)
    return is_twenty(value) and agreeing(body, value) == indices


def spliced(one, other, at):
    """The first signs of the frame of one, and what is behind as many of the other one."""
    check_twenty(one)
    check_twenty(other)
    check_number(at, 0, WINDOW_SIGNS)
    return made_frame(one)[:at] + made_frame(other)[at:]
