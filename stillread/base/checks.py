"""Checks of integers and of tuples of integers, for all modules."""

from stillread.errors import InvalidNumber


def is_number(value, least, most):
    """Whether the value is an integer within the bounds."""
    return isinstance(value, int) and not isinstance(value, bool) and least <= value <= most


def check_number(given, least, most):
    """InvalidNumber unless the given value is an integer within the bounds."""
    if not is_number(given, least, most):
        raise InvalidNumber(given)


def is_ascending(row):
    """Whether each member of a row is less than the next one."""
    return all([one < other for one, other in zip(row, row[1:])])


def are_indices(value, many):
    """Whether the value is an ascending tuple of integers from 0 to many - 1."""
    if not isinstance(value, tuple):
        return False
    return all([is_number(index, 0, many - 1) for index in value]) and is_ascending(value)
