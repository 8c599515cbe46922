"""Polys over the cells: tuples of cells by ascending powers, the last one other than 0."""

from stillread.base.checks import are_indices, check_number, is_number
from stillread.base.names import MAX_CELL, PRIME, is_cells
from stillread.errors import InvalidCells, InvalidOperation, InvalidPoly

MOST_CELLS = 60


def is_poly(value):
    """Whether the value is a poly, of any length."""
    return is_cells(value) and (value == () or value[-1] != 0)


def check_poly(poly):
    """InvalidPoly unless it is a poly of at most 60 cells."""
    if not is_poly(poly) or len(poly) > MOST_CELLS:
        raise InvalidPoly("no poly of at most 60 cells")


def check_places(places):
    """InvalidPoly unless it is a tuple of at most 60 unlike cells."""
    if not is_cells(places) or len(places) > MOST_CELLS or len(set(places)) != len(places):
        raise InvalidPoly("no tuple of at most 60 unlike cells")


def check_points(points):
    """InvalidPoly unless it is a tuple of at most 60 pairs of cells with unlike places."""
    if not isinstance(points, tuple) or not all([is_cells(point) and len(point) == 2 for point in points]):
        raise InvalidPoly("no tuple of pairs of cells")
    check_places(tuple([place for place, number in points]))


def inverse(cell):
    """The cell that makes 1 of a cell other than 0, times it."""
    # By Fermat's theorem the power with the exponent PRIME - 1 is 1.
    return pow(int(cell), 995, 997)


def trimmed(numbers):
    """The poly with these integers by ascending powers, modulo the prime."""
    cells = [number % PRIME for number in numbers]
    while cells and cells[-1] == 0:
        cells.pop()
    return tuple(cells)


def evaluated(poly, cell):
    """The value of a poly, of any length, at a cell."""
    total = 0
    for number in reversed(poly):
        total = (total * cell + number) % PRIME
    return total


def value_at(poly, cell):
    """The value of a poly at a cell."""
    check_poly(poly)
    check_number(cell, 0, MAX_CELL)
    return evaluated(poly, cell)


def check_both(one, other):
    """InvalidPoly unless both are polys of at most 60 cells."""
    check_poly(one)
    check_poly(other)


def poly_sum(one, other):
    """The sum of two polys."""
    check_both(one, other)
    return combined(one, other, 1)


def poly_less(one, other):
    """The first poly less the other one."""
    check_both(one, other)
    return combined(one, other, -1)


def combined(one, other, factor):
    """The first poly plus a factor times the other one."""
    longest = max(len(one), len(other))
    numbers = list(one) + [0] * (longest - len(one))
    for power, cell in enumerate(other):
        numbers[power] += factor * cell
    return trimmed(numbers)


def poly_scaled(poly, number):
    """The poly times a number."""
    check_poly(poly)
    check_number(number, 0, MAX_CELL)
    return trimmed([number * cell for cell in poly])


def poly_product(one, other):
    """The product of two polys."""
    check_both(one, other)
    return multiplied(one, other)


def multiplied(one, other):
    """The product of two polys of any lengths, told by any integers."""
    numbers = [0] * (len(one) + len(other))
    for power, cell in enumerate(one):
        for more, factor in enumerate(other):
            numbers[power + more] += cell * factor
    return trimmed(numbers)


def poly_divided(one, other):
    """The quotient and the rest of the first poly by the other one."""
    check_both(one, other)
    if other == ():
        raise InvalidOperation("division by the poly 0")
    rest = list(one)
    quotient = [0] * len(one)
    first = inverse(other[-1])
    for shift in reversed(range(len(one) - len(other) + 1)):
        factor = rest[shift + len(other) - 1] * first % PRIME
        quotient[shift] = factor
        for power, cell in enumerate(other):
            rest[shift + power] = (rest[shift + power] - factor * cell) % PRIME
    return (trimmed(quotient), trimmed(rest))


def none_at(places):
    """The poly with the last cell 1 that is 0 just at the places."""
    check_places(places)
    return with_roots(places)


def with_roots(places):
    """The product of t - place over all places."""
    poly = (1,)
    for place in places:
        poly = multiplied(poly, (-place, 1))
    return poly


def products_without(factors):
    """For each factor of a list the product of all others."""
    ahead, behind = [1], [1]
    for factor in factors:
        ahead.append(ahead[-1] * factor % PRIME)
    for factor in reversed(factors):
        behind.append(behind[-1] * factor % PRIME)
    last = len(factors) - 1
    return [ahead[at] * behind[last - at] % PRIME for at in range(len(factors))]


def place_weights(places):
    """For each place the inverse of the product of its differences to all others."""
    weights = []
    for place in places:
        product = 1
        for other in places:
            if other != place:
                product = product * (place - other) % PRIME
        weights.append(inverse(product))
    return weights


def numbers_by(places, weights, cell):
    """The numbers of `numbers_at`, with the weights of the places."""
    others = products_without([(cell - place) % PRIME for place in places])
    return tuple([weight * other % PRIME for weight, other in zip(weights, others)])


def numbers_at(places, cell):
    """The numbers that make of the values at the places the value at the cell."""
    check_places(places)
    check_number(cell, 0, MAX_CELL)
    return numbers_by(places, place_weights(places), cell)


def through(points):
    """The poly of degree below the number of the points through them."""
    check_points(points)
    return interpolated(points)


def interpolated(points):
    """The poly through checked points."""
    poly, factor = (), (1,)
    for place, number in points:
        # The factor is 0 at all places so far, so those values stay.
        lacking = (number - evaluated(poly, place)) * inverse(evaluated(factor, place))
        poly = combined(poly, factor, lacking)
        factor = multiplied(factor, (-place, 1))
    return poly


def first_off(points, many):
    """The first `many` indices and the first one that is off their poly, None if none is."""
    check_points(points)
    check_number(many, 0, MOST_CELLS)
    poly = interpolated(points[:many])
    for index in range(many, len(points)):
        place, number = points[index]
        if evaluated(poly, place) != number:
            return tuple(range(many)) + (index,)
    return None


def is_off(points, many, value):
    """Whether the value tells `many` + 1 points that lie on no poly of degree below `many`."""
    check_points(points)
    check_number(many, 0, MOST_CELLS)
    if not are_indices(value, len(points)) or len(value) != many + 1:
        return False
    poly = interpolated(tuple([points[index] for index in value[:-1]]))
    place, number = points[value[-1]]
    return evaluated(poly, place) != number


def are_rows(value, many):
    """Whether the value is a tuple of at most 60 tuples of `many` cells, whatever `many` is."""
    if not isinstance(value, tuple) or len(value) > MOST_CELLS:
        return False
    return all([is_cells(row) and is_number(many, len(row), len(row)) for row in value])


def kernel(rows, many):
    """The vectors, by columns without a lead, whose products with all rows are 0."""
    if not are_rows(rows, many):
        raise InvalidCells("no tuple of at most 60 tuples of so many cells")
    check_number(many, 0, MOST_CELLS)
    leading = reduced(rows, many)
    vectors = []
    for free in range(many):
        if free not in leading:
            vector = [0] * many
            vector[free] = 1
            for lead, row in leading.items():
                vector[lead] = -row[free] % PRIME
            vectors.append(tuple(vector))
    return tuple(vectors)


def reduced(rows, many):
    """The dict from the columns with a lead to sums of rows: 1 there, 0 at all other leads."""
    left = [list(row) for row in rows]
    leading = {}
    for column in range(many):
        found = [row for row in left if row[column] != 0]
        if found:
            left.remove(found[0])
            lead = [cell * inverse(found[0][column]) % PRIME for cell in found[0]]
            left = [cleared(row, lead, column) for row in left]
            leading = {other: cleared(leading[other], lead, column) for other in leading}
            leading[column] = lead
    return leading


def cleared(row, lead, column):
    """The row less so many times the lead's row that it is 0 in the column."""
    factor = row[column]
    return [(cell - factor * less) % PRIME for cell, less in zip(row, lead)]
