"""What is known of the columns of new cells: at the indices of frames, and by filling."""

from stillread.base.checks import are_indices
from stillread.base.polys import evaluated, interpolated, is_poly
from stillread.lots.spread import MOST_FRAMES, ROW
from stillread.plain.histories import row_count


def filling_row(length, column):
    """The row whose cell in a column is filling, None if there is none."""
    last = row_count(length) - 1
    return last if ROW * last + column >= length else None


def column_places(payloads, length, column):
    """The dict from the known places of a column to what is known there.

    `payloads` are those of frames, by their indices; `length` is how many new cells there are.
    """
    known = {index: payload[column] for index, payload in payloads.items()}
    row = filling_row(length, column)
    if row is not None and row not in known:
        known[row] = 0
    return {place: known[place] for place in sorted(known)}


def poly_through(known, many):
    """The poly through the first known places, at most so many."""
    return interpolated(tuple(list(known.items())[:many]))


def number_at(known, many, place):
    """What a column has at a place, None if it is open; `many` places tell its poly."""
    if place in known:
        return known[place]
    if len(known) < many:
        return None
    return evaluated(poly_through(known, many), place)


def paper_at(known, many, place):
    """The paper for what a column has at a place that is not open."""
    if place in known:
        return ("own",)
    return ("poly", tuple(list(known)[:many]), poly_through(known, many))


def told_numbers(known, many, places):
    """What a column has at the places of a list, None for each that is open."""
    if len(known) < many:
        return [known.get(place) for place in places]
    poly = poly_through(known, many)
    return [evaluated(poly, place) for place in places]


def off_place(known, many):
    """The first known place that is off the poly through the first `many` ones, None if none is."""
    poly = poly_through(known, many)
    off = [place for place, number in known.items() if evaluated(poly, place) != number]
    return off[0] if off else None


def are_known(known, many, value):
    """Whether the value is an ascending tuple of `many` known places."""
    return are_indices(value, MOST_FRAMES) and len(value) == many and all([place in known for place in value])


def is_poly_at(known, many, places, value):
    """Whether the value is the poly of degree below `many` that has what is known at so many known places."""
    if not are_known(known, many, places) or not is_poly(value) or len(value) > many:
        return False
    return all([evaluated(value, place) == known[place] for place in places])
