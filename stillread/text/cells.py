"""Signs and texts, the digits of cells, and the windows that stand in a text."""

from stillread.base.checks import check_number
from stillread.base.names import MAX_CELL, check_cells, is_cells
from stillread.errors import InvalidCells, InvalidText, TooMany

MOST_SIGNS = 60000
WINDOW_SIGNS = 122
WINDOW_CELLS = 40
MOST_DIGITS = 20000
CELL_DIGITS = 3


def is_text(value):
    """Whether the value is a text."""
    return isinstance(value, str) and len(value) <= MOST_SIGNS and value.isascii() and value.isprintable()


def check_text(text):
    """InvalidText unless it is a text."""
    if not is_text(text):
        raise InvalidText("no string of at most 60,000 printable ASCII characters")


def is_window(value):
    """Whether the value is a window."""
    return is_text(value) and len(value) == WINDOW_SIGNS and cells_from(value, 0) is not None


def digits_of(cells):
    """The digits of checked cells."""
    return "".join([f"{cell:03d}" for cell in cells])


def cells_text(cells):
    """The digits of at most 20,000 cells, one behind the other."""
    check_cells(cells, MOST_DIGITS)
    return digits_of(cells)


def told_cells(text):
    """The cells that have these digits, None if there are none."""
    check_text(text)
    return digits_cells(text)


def digits_cells(signs):
    """The cells that have as their digits the signs of a text, None if there are none."""
    if signs == "":
        return ()
    if len(signs) % CELL_DIGITS or not signs.isdigit():
        return None
    cells = [int(signs[at:at + CELL_DIGITS]) for at in range(0, len(signs), CELL_DIGITS)]
    return tuple(cells) if max(cells) <= MAX_CELL else None


def window_text(cells):
    """The window with 40 cells."""
    if not is_cells(cells) or len(cells) != WINDOW_CELLS:
        raise InvalidCells("no tuple of 40 cells")
    return "#" + digits_of(cells) + ";"


def window_cells(text):
    """The cells of a window, None for any other text."""
    check_text(text)
    return cells_from(text, 0) if len(text) == WINDOW_SIGNS else None


def cells_from(text, place):
    """The cells of the window at a place with 122 signs behind it, None if there is none."""
    last = place + WINDOW_SIGNS - 1
    if text[place] != "#" or text[last] != ";":
        return None
    return digits_cells(text[place + 1:last])


def windows(text):
    """The pairs (place, cells) of all windows that stand in a text."""
    check_text(text)
    return standing(text, 0, len(text))


def standing(text, begin, end):
    """The pairs (place, cells) of the windows of a checked text that lie in a stretch."""
    found = []
    place = text.find("#", begin)
    while 0 <= place <= end - WINDOW_SIGNS:
        cells = cells_from(text, place)
        if cells is not None:
            found.append((place, cells))
        place = text.find("#", place + 1)
    return tuple(found)


def pieces(text):
    """The triples (word, begin, end) of the windows of a text and of what lies about them."""
    parts = []
    last = 0
    for place, cells in windows(text):
        if last < place:
            parts.append(("other", last, place))
        last = place + WINDOW_SIGNS
        parts.append(("window", place, last))
    if last < len(text):
        parts.append(("other", last, len(text)))
    return tuple(parts)


def windows_in(text, begin, end):
    """The windows of a text that lie wholly ahead of `end` and not ahead of `begin`."""
    check_text(text)
    check_number(begin, 0, len(text))
    check_number(end, begin, len(text))
    return standing(text, begin, end)


def windows_across(one, other):
    """The windows of two texts joined that have signs of both."""
    check_text(one)
    check_text(other)
    if len(one) + len(other) > MOST_SIGNS:
        raise TooMany(MOST_SIGNS)
    joined = one + other
    # A stretch with all but one sign of a window on either side holds just those across.
    begin = max(0, len(one) - WINDOW_SIGNS + 1)
    end = min(len(joined), len(one) + WINDOW_SIGNS - 1)
    return standing(joined, begin, end)
