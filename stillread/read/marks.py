"""Marks of deeds, sketches of saves, and rows of pieces that tell where cells come from."""

from stillread.base.checks import LONGEST, check_number, is_number
from stillread.base.names import is_cells, is_name
from stillread.errors import InvalidCells, InvalidDeed, InvalidOperation, InvalidSketch, Refused
from stillread.plain.histories import is_save_name
from stillread.plain.trees import MOST_LENGTH, MOST_NEW, refusal


def is_put_mark(value):
    """Whether the value is the mark of a put, but for its word."""
    return len(value) == 3 and is_name(value[1]) and is_number(value[2], 0, MOST_NEW)


def is_patch_mark(value):
    """Whether the value is the mark of a patch, but for its word."""
    if len(value) != 6 or not is_name(value[1]):
        return False
    at, out, length, ahead = value[2:]
    if not is_number(ahead, 0, MOST_LENGTH) or not is_number(at, 0, ahead) or not is_number(out, 0, ahead - at):
        return False
    return is_number(length, 0, MOST_NEW) and ahead - out + length <= MOST_LENGTH


def is_drop_mark(value):
    """Whether the value is the mark of a drop, but for its word."""
    return len(value) == 3 and is_name(value[1]) and is_number(value[2], 0, MOST_LENGTH)


def is_rename_mark(value):
    """Whether the value is the mark of a rename, but for its word."""
    if len(value) != 4 or not is_name(value[1]) or not is_name(value[2]):
        return False
    return value[1] != value[2] and is_number(value[3], 0, MOST_LENGTH)


JUDGES = {"put": is_put_mark, "patch": is_patch_mark, "drop": is_drop_mark, "rename": is_rename_mark}


def is_mark(value):
    """Whether the value is a mark."""
    if not isinstance(value, tuple) or not value or not isinstance(value[0], str) or value[0] not in JUDGES:
        return False
    judge = JUDGES[value[0]]
    return judge(value)


def check_mark(mark):
    """InvalidDeed unless it is a mark."""
    if not is_mark(mark):
        raise InvalidDeed("no mark of a deed")


def mark_length(mark):
    """How many new cells the deed of a checked mark has."""
    if mark[0] == "put":
        return mark[2]
    return mark[4] if mark[0] == "patch" else 0


def length_behind(mark):
    """How long the entry is behind the deed of a checked mark that is no drop."""
    if mark[0] == "put":
        return mark[2]
    return mark[5] - mark[3] + mark[4] if mark[0] == "patch" else mark[3]


def mark_made(deed, ahead):
    """The mark of a checked deed on an entry of this length, which does not matter for a put."""
    if deed[0] == "put":
        return deed[:2] + (len(deed[2]),)
    if deed[0] == "patch":
        return deed[:4] + (len(deed[4]), ahead)
    return deed + (ahead,)


def mark_of(tree, deed):
    """The mark of a deed on a tree."""
    reason = refusal(tree, deed)
    if reason is not None:
        raise Refused(reason)
    return mark_made(deed, len(tree.get(deed[1], ())))


def deed_of(mark, cells):
    """The deed with a mark and with its new cells."""
    check_mark(mark)
    if not is_cells(cells) or len(cells) != mark_length(mark):
        raise InvalidCells("no tuple of as many cells as the mark tells")
    return deed_made(mark, cells)


def deed_made(mark, cells):
    """The deed with a checked mark and with so many new cells as it tells."""
    if mark[0] == "put":
        return mark[:2] + (cells,)
    return mark[:4] + (cells,) if mark[0] == "patch" else mark[:-1]


def is_sketch(value):
    """Whether the value is a sketch."""
    return isinstance(value, dict) and all([is_sketched(save, told) for save, told in value.items()])


def is_sketched(save, told):
    """Whether this is a save, by its name, with its base and its mark."""
    if not is_save_name(save) or not isinstance(told, tuple) or len(told) != 2 or not is_mark(told[1]):
        return False
    return told[0] is None or (is_save_name(told[0]) and told[0] != save)


def check_sketch(sketch):
    """InvalidSketch unless it is a sketch."""
    if not is_sketch(sketch):
        raise InvalidSketch("no sketch")


def is_source(value):
    """Whether the value is a source of cells."""
    if not isinstance(value, tuple) or len(value) != 2:
        return False
    return (value[0] == "new" and is_save_name(value[1])) or (value[0] == "below" and is_name(value[1]))


def is_piece(value):
    """Whether the value is a piece."""
    if not isinstance(value, tuple) or len(value) != 3 or not is_source(value[0]):
        return False
    return is_number(value[1], 0, LONGEST) and is_number(value[2], 1, LONGEST)


def does_go_on(piece, other):
    """Whether the other piece begins just where the piece ends, with the same source."""
    return piece[0] == other[0] and piece[1] + piece[2] == other[1]


def is_row(value):
    """Whether the value is a row."""
    if not isinstance(value, tuple) or not all([is_piece(piece) for piece in value]):
        return False
    return not any([does_go_on(piece, other) for piece, other in zip(value, value[1:])])


def check_row(row):
    """InvalidOperation unless it is a row."""
    if not is_row(row):
        raise InvalidOperation("no row of pieces")


def cells_in(row):
    """How many cells a checked row has."""
    return sum([piece[2] for piece in row])


def row_length(row):
    """The number of the cells of a row."""
    check_row(row)
    return cells_in(row)


def row_part(row, first, stop):
    """The row of the cells from the first one told up to ahead of the other one."""
    check_row(row)
    check_number(first, 0, cells_in(row))
    check_number(stop, first, cells_in(row))
    return part_of(row, first, stop)


def part_of(row, first, stop):
    """The part of a checked row."""
    parts = []
    at = 0
    for source, begin, many in row:
        low, high = max(first, at), min(stop, at + many)
        if low < high:
            parts.append((source, begin + low - at, high - low))
        at += many
    return tuple(parts)


def row_joined(rows):
    """The row of the cells of several rows, one behind the other."""
    if not isinstance(rows, tuple) or not all([is_row(row) for row in rows]):
        raise InvalidOperation("no tuple of rows")
    return joined(rows)


def joined(rows):
    """The row of the cells of several checked rows."""
    pieces = []
    for piece in [one for row in rows for one in row]:
        if pieces and does_go_on(pieces[-1], piece):
            source, begin, many = pieces[-1]
            pieces[-1] = (source, begin, many + piece[2])
        else:
            pieces.append(piece)
    return tuple(pieces)


def origin(row, at):
    """The source of the cell at a place of a row, and its index there."""
    check_row(row)
    check_number(at, 0, cells_in(row) - 1)
    return origin_in(row, at)


def origin_in(row, at):
    """The source and the index of the cell at a place of a checked row that has it."""
    source, begin, many = part_of(row, at, at + 1)[0]
    return (source, begin)
