"""Checks of integers and of tuples of integers, for all modules."""

from stillread.errors import InvalidNumber

LONGEST = 10 ** 60 - 1


def is_number(value, least, most):
    """Whether the value is an integer of at most sixty digits within the bounds."""
    if not isinstance(value, int) or isinstance(value, bool):
        return False
    # The bounds can be longer than what may be passed, such as the number of the cells of a row.
    return max(least, -LONGEST) <= value <= min(most, LONGEST)


def check_number(given, least, most):
    """InvalidNumber unless the given value is an integer within the bounds."""
    if not is_number(given, least, most):
        raise InvalidNumber(given)


def is_ascending(row):
    """Whether each member of a row is less than the next one."""
    return all([one < other for one, other in zip(row, row[1:])])


def are_indices(value, many):
    """Whether the value is an ascending tuple of integers from 0 to many - 1."""
    if not isinstance(value, tuple):
        return False
    return all([is_number(index, 0, many - 1) for index in value]) and is_ascending(value)
