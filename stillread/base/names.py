"""Cells, and names with their cells."""

from stillread.base.checks import check_number, is_number
from stillread.errors import InvalidCells, InvalidName

PRIME = 997
MAX_CELL = 996
MAX_NAME = 4
LETTERS = "abcdefghijklmnopqrstuvwxyz"
LETTER_NUMBERS = 27


def is_cell(value):
    """Whether the value is a cell."""
    return is_number(value, 0, MAX_CELL)


def is_cells(value):
    """Whether the value is a tuple of cells."""
    return isinstance(value, tuple) and all([is_cell(cell) for cell in value])


def is_name(value):
    """Whether the value is a name."""
    if not isinstance(value, str) or not 1 <= len(value) <= MAX_NAME:
        return False
    return all([letter in LETTERS for letter in value])


def check_name(name):
    """InvalidName unless it is a name."""
    if not is_name(name):
        raise InvalidName("no name of one to four letters a to z")


def check_cells(cells, most):
    """InvalidCells unless it is a tuple of at most so many cells."""
    if not is_cells(cells) or len(cells) > most:
        raise InvalidCells("no tuple of cells, or too long a one")


def name_cells(name):
    """The pair of the cells of a name."""
    check_name(name)
    numbers = [LETTERS.index(letter) + 1 for letter in name] + [0] * (MAX_NAME - len(name))
    return (LETTER_NUMBERS * numbers[0] + numbers[1], LETTER_NUMBERS * numbers[2] + numbers[3])


def cells_name(first, second):
    """The name with a pair of cells, None if there is none."""
    check_number(first, 0, MAX_CELL)
    check_number(second, 0, MAX_CELL)
    numbers = list(divmod(first, LETTER_NUMBERS)) + list(divmod(second, LETTER_NUMBERS))
    while numbers and numbers[-1] == 0:
        numbers.pop()
    # A 0 that is left stands ahead of a letter, so it is not behind the end.
    if not numbers or min(numbers) == 0 or max(numbers) > len(LETTERS):
        return None
    return "".join([LETTERS[number - 1] for number in numbers])
