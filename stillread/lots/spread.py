"""Bodies of frames: what they tell, how they are judged, and all frames of a save."""

from stillread.base.checks import check_number
from stillread.base.names import MAX_CELL, PRIME, cells_name, check_cells, is_cells, name_cells
from stillread.base.polys import numbers_by, place_weights
from stillread.errors import InvalidBody, InvalidCells, InvalidFrames, InvalidOperation, InvalidSave
from stillread.plain.histories import check_history, is_save, lengths_ahead, row_count
from stillread.plain.trees import MOST_LENGTH, put_cells
from stillread.read.marks import is_mark

BODY = 20
ROW = 6
MAX_NEW = 48
MOST_FRAMES = 16
MOST_BODIES = 491
KINDS = ("put", "patch", "drop", "rename")
# For each kind the places of those cells of a body that it does not need, which are 0.
UNUSED = ((10, 11, 13), (), (10, 11, 12), (12,))


def is_body(value):
    """Whether the value is a body."""
    if not is_cells(value) or len(value) != BODY or min(value[:3]) == 0:
        return False
    return is_based(value) and is_marked(value) and is_framed(value)


def is_based(cells):
    """Whether 20 cells tell no base, or one that can be earlier than the save."""
    if cells[5] == 0 or cells[6] == 0:
        return cells[5] == cells[6]
    return cells[5] != cells[1] or cells[6] < cells[2]


def is_marked(cells):
    """Whether 20 cells tell a mark, that of a put unless they tell a base."""
    kind = cells[7]
    if kind >= len(KINDS) or (kind != 0 and cells[5] == 0):
        return False
    return not any([cells[at] for at in UNUSED[kind]]) and is_mark(mark_in(cells))


def is_framed(cells):
    """Whether index, n and payload of 20 cells are right for their length."""
    index, n, length = cells[3], cells[4], cells[12]
    if not row_count(length) <= n <= MOST_FRAMES or index >= n:
        return False
    return not any(cells[14 + first_filling(length, index):])


def first_filling(length, index):
    """The column from which on the payload of an index is 0, whatever the new cells are."""
    rows = row_count(length)
    if index >= rows and rows > 1:
        return ROW
    # All values of a poly of degree below 1 are the one in its only row.
    row = index if rows > 1 else 0
    return min(ROW, length - ROW * row)


def mark_in(cells):
    """The mark that 20 cells of one of the four kinds tell; a name that there is not is None."""
    word, name = KINDS[cells[7]], cells_name(cells[8], cells[9])
    at, out, length, ahead = cells[10:14]
    if word == "put":
        return (word, name, length)
    if word == "patch":
        return (word, name, at, out, length, ahead)
    if word == "drop":
        return (word, name, ahead)
    return (word, name, cells_name(at, out), ahead)


def save_in(body):
    """The name of the save of a checked body."""
    return body[1:3]


def base_in(body):
    """The name of the base of a checked body, None without a base."""
    return body[5:7] if body[5] else None


def marks_in(body):
    """The thirteen marks of a checked body."""
    return body[:3] + body[4:14]


def check_body(body):
    """InvalidBody unless it is a body."""
    if not is_body(body):
        raise InvalidBody("no body")


def check_frames(frames):
    """InvalidFrames unless it is a tuple of at most 491 bodies of one archive."""
    if not isinstance(frames, tuple) or len(frames) > MOST_BODIES or not all([is_body(body) for body in frames]):
        raise InvalidFrames("no tuple of at most 491 bodies")
    if any([body[0] != frames[0][0] for body in frames]):
        raise InvalidFrames("bodies of several archives")


def check_payload(payload):
    """InvalidCells unless it is a tuple of six cells."""
    if not is_cells(payload) or len(payload) != ROW:
        raise InvalidCells("no tuple of six cells")


def told_body(body):
    """The tuple (archive, save, index, n, base, mark, payload) of a body."""
    check_body(body)
    return (body[0], save_in(body), body[3], body[4], base_in(body), mark_in(body), body[14:])


def marks(body):
    """The thirteen marks of a body."""
    check_body(body)
    return marks_in(body)


def with_payload(body, index, payload):
    """The body with another index and payload."""
    check_body(body)
    check_number(index, 0, body[4] - 1)
    check_payload(payload)
    other = body[:3] + (index,) + body[4:14] + payload
    if not is_body(other):
        raise InvalidOperation("a payload that is not 0 at filling")
    return other


def payloads(cells, n):
    """The payloads of a save with these new cells and n frames."""
    check_cells(cells, MAX_NEW)
    check_number(n, row_count(len(cells)), MOST_FRAMES)
    return spread(cells, n)


def cell_rows(cells):
    """The rows of new cells, the last one filled."""
    filled = cells + (0,) * (ROW * row_count(len(cells)) - len(cells))
    return [filled[at:at + ROW] for at in range(0, len(filled), ROW)]


def spread(cells, n):
    """The payloads of checked new cells."""
    rows = cell_rows(cells)
    places = tuple(range(len(rows)))
    weights = place_weights(places)
    further = [combined_row(rows, numbers_by(places, weights, index)) for index in range(len(rows), n)]
    return tuple(rows + further)


def combined_row(rows, numbers):
    """The sum of rows, each one times its number."""
    sums = [0] * ROW
    for row, number in zip(rows, numbers):
        sums = [total + number * cell for total, cell in zip(sums, row)]
    return tuple([total % PRIME for total in sums])


def frames_of(archive, save, ahead):
    """The bodies of all frames of a save, by indices."""
    check_number(archive, 1, MAX_CELL)
    if not is_save(save) or not is_earlier(save[2], save):
        raise InvalidSave("no save, or a base that is none")
    check_number(ahead, 0, MOST_LENGTH)
    bodies = save_bodies(archive, save, ahead)
    if not is_body(bodies[0]):
        raise InvalidOperation("no bodies of frames with this length ahead")
    return bodies


def is_earlier(base, save):
    """Whether the base of a save is None, of another hand, or has a lesser number."""
    return base is None or base[0] != save[0] or base[1] < save[1]


def deed_cells(deed, ahead):
    """The cells of a body that tell a deed: from the kind to the length ahead."""
    word, name = deed[0], deed[1]
    two = deed[2:4] if word == "patch" else (0, 0)
    if word == "rename":
        two = name_cells(deed[2])
    return (KINDS.index(word),) + name_cells(name) + two + (len(put_cells(deed)), ahead)


def save_bodies(archive, save, ahead):
    """The bodies of a save of the right form, right if the deed can be done at this length ahead."""
    hand, number, base, deed, n = save
    head = (archive, hand, number)
    told = ((0, 0) if base is None else base) + deed_cells(deed, ahead)
    return tuple([head + (index, n) + told + payload for index, payload in enumerate(spread(put_cells(deed), n))])


def all_frames(archive, history):
    """The bodies of all frames of all saves of a history, ascending."""
    check_number(archive, 1, MAX_CELL)
    check_history(history)
    bodies = []
    for save, ahead in zip(history, lengths_ahead(history)):
        bodies.extend(save_bodies(archive, save, ahead))
    return tuple(sorted(bodies))
