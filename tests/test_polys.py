"""Polys: sums, products, divisions, points, numbers and kernels."""

import itertools
import random
import unittest

from stillread import errors
from stillread.base import polys
from stillread.base.polys import (
    first_off, is_off, is_poly, kernel, none_at, numbers_at, poly_divided, poly_less, poly_product, poly_scaled,
    poly_sum, through, value_at,
)
from tests import wrong
from tests.examples import run_examples

EXAMPLES = """
>>> [value_at((1, 2, 3), 10), poly_sum((1, 996), (0, 1)), poly_less((), (0, 1)), poly_product((996, 1), (1, 1)), poly_scaled((2, 4), 499)]
[321, (1,), (0, 996), (996, 0, 1), (1, 2)]
>>> [poly_divided((996, 0, 1), (1, 1)), none_at((1, 996)), none_at(()), through(((0, 5), (1, 7))), through(((3, 0),))]
[((996, 1), ()), (996, 0, 1), (1,), (5, 2), ()]
>>> [numbers_at((0, 1), 2), numbers_at((4, 9), 9), first_off(((0, 5), (1, 7), (2, 9), (3, 12)), 2), first_off(((0, 5), (1, 7), (2, 9)), 2), is_off(((0, 5), (1, 7), (2, 8)), 2, (0, 1, 2))]
[(996, 2), (0, 1), (0, 1, 3), None, True]
>>> [kernel(((1, 2, 3),), 3), kernel((), 1), kernel(((1, 0), (1, 1)), 2)]
[((995, 1, 0), (994, 0, 1)), ((1,),), ()]
>>> through(((1, 2), (1, 2)))
raises InvalidPoly
"""
DRAW = random.Random(2)


def plain_value(poly, cell):
    return sum(number * cell ** power for power, number in enumerate(poly)) % 997


def drawn_poly(most, draw=DRAW):
    cells = [draw.choice((0, 1, 996, draw.randrange(997))) for _ in range(draw.randint(0, most))]
    while cells and cells[-1] == 0:
        cells.pop()
    return tuple(cells)


def drawn_points(many, draw=DRAW):
    return tuple((place, draw.randrange(997)) for place in draw.sample(range(997), many))


def points_of(poly, places):
    return tuple((place, plain_value(poly, place)) for place in places)


def is_short_poly(value):
    return wrong.is_poly(value) and len(value) <= 60


def are_places(value):
    return wrong.is_cells(value, 60) and len(set(value)) == len(value)


def are_points(value):
    if not isinstance(value, tuple) or not all(wrong.is_cells(point) and len(point) == 2 for point in value):
        return False
    return are_places(tuple(point[0] for point in value))


def is_many(value):
    return wrong.is_int(value, 0, 60)


def plain_rank(rows):
    """The rank of rows of cells, counted by clearing column by column."""
    rows, rank = [list(row) for row in rows], 0
    for column in range(len(rows[0]) if rows else 0):
        for at in range(rank, len(rows)):
            if rows[at][column]:
                rows[rank], rows[at] = rows[at], rows[rank]
                for other in range(rank + 1, len(rows)):
                    one, two = rows[rank][column], rows[other][column]
                    rows[other] = [(one * y - two * x) % 997 for x, y in zip(rows[rank], rows[other])]
                rank += 1
                break
    return rank


class OneByOneTest(unittest.TestCase):
    def test_examples(self):
        run_examples(self, EXAMPLES, {**vars(errors), **vars(polys)})

    def test_constant(self):
        self.assertEqual(polys.MOST_CELLS, 60)

    def test_is_poly(self):
        for value in wrong.ODD:
            self.assertIs(is_poly(value), wrong.is_poly(value), repr(value)[:60])
        self.assertIs(is_poly((1,) * 2000), True)
        self.assertIs(is_poly((1, 0)), False)
        self.assertIs(is_poly((0,)), False)
        self.assertIs(is_poly((1, True)), False)

    def test_values_at_drawn_cells(self):
        for _ in range(300):
            poly, cell = drawn_poly(60), DRAW.randrange(997)
            self.assertEqual(value_at(poly, cell), plain_value(poly, cell))

    def test_sums_differences_and_products_by_values(self):
        for _ in range(150):
            one, other, cell, number = drawn_poly(60), drawn_poly(60), DRAW.randrange(997), DRAW.randrange(997)
            at_one, at_other = plain_value(one, cell), plain_value(other, cell)
            for told, wanted in (
                (poly_sum(one, other), at_one + at_other), (poly_less(one, other), at_one - at_other),
                (poly_product(one, other), at_one * at_other), (poly_scaled(one, number), at_one * number),
            ):
                self.assertTrue(wrong.is_poly(told))
                self.assertEqual(plain_value(told, cell), wanted % 997)

    def test_sums_and_products_of_nothing(self):
        poly = (3, 0, 1)
        self.assertEqual([poly_sum(poly, ()), poly_less(poly, poly), poly_product(poly, ()), poly_scaled(poly, 0)],
                         [poly, (), (), ()])
        self.assertEqual(len(poly_product((1,) * 60, (1,) * 60)), 119)

    def test_divisions(self):
        for _ in range(200):
            one, other = drawn_poly(60), drawn_poly(DRAW.choice((1, 2, 5, 60))) or (DRAW.randint(1, 996),)
            quotient, rest = poly_divided(one, other)
            self.assertTrue(wrong.is_poly(quotient) and wrong.is_poly(rest))
            self.assertLess(len(rest), len(other))
            self.assertEqual(poly_sum(poly_product(quotient, other), rest), one)
        self.assertEqual(poly_divided((1, 2), (0, 0, 1)), ((), (1, 2)))
        self.assertEqual(poly_divided((), (5,)), ((), ()))

    def test_roots_are_few(self):
        for _ in range(20):
            poly = drawn_poly(6) or (1,)
            self.assertLess(sum(value_at(poly, cell) == 0 for cell in range(997)), len(poly))

    def test_wrong_polys(self):
        odd = (errors.InvalidPoly, wrong.odd_but(is_short_poly))
        cell = (errors.InvalidNumber, wrong.odd_but(wrong.is_cell))
        wrong.check_wrong(self, value_at, ((1,) * 60, 996), (odd, cell))
        wrong.check_wrong(self, poly_scaled, ((1,), 0), (odd, cell))
        for function in (poly_sum, poly_less, poly_product):
            wrong.check_wrong(self, function, ((1,) * 60, (1,) * 60), (odd, odd))
        then = ((errors.InvalidOperation, ((1,), ()), (0,)), (errors.InvalidOperation, ((), ()), (0,)))
        wrong.check_wrong(self, poly_divided, ((1,), (1, 1)), (odd, odd), then)


class PointsTest(unittest.TestCase):
    def test_none_at_its_places_alone(self):
        for many in (0, 1, 2, 5, 20):
            places = tuple(DRAW.sample(range(997), many))
            poly = none_at(places)
            self.assertEqual((len(poly), poly[-1]), (many + 1, 1))
            self.assertEqual([cell for cell in range(997) if plain_value(poly, cell) == 0], sorted(places))
        self.assertEqual(len(none_at(tuple(range(60)))), 61)

    def test_through_points(self):
        for many in tuple(range(8)) + (20, 59, 60):
            points = drawn_points(many)
            poly = through(points)
            self.assertTrue(wrong.is_poly(poly) and len(poly) <= many)
            self.assertEqual(points_of(poly, [place for place, number in points]), points)

    def test_just_one_poly_has_these_values(self):
        for _ in range(50):
            poly = drawn_poly(12)
            places = DRAW.sample(range(997), 12)
            self.assertEqual(through(points_of(poly, places)), poly)

    def test_numbers_make_values_of_values(self):
        for many in (1, 2, 3, 8, 20, 60):
            places, cell = tuple(DRAW.sample(range(997), many)), DRAW.randrange(997)
            numbers = numbers_at(places, cell)
            self.assertTrue(wrong.is_cells(numbers) and len(numbers) == many)
            for _ in range(5):
                poly = drawn_poly(many)
                total = sum(number * plain_value(poly, place) for number, place in zip(numbers, places))
                self.assertEqual(total % 997, plain_value(poly, cell))
        self.assertEqual(numbers_at((), 5), ())
        self.assertEqual([numbers_at((7, 3, 0), cell) for cell in (0, 3, 7)], [(0, 0, 1), (0, 1, 0), (1, 0, 0)])
        self.assertEqual([numbers_at((5,), 0), numbers_at((996,), 996), value_at((3, 4), 0)], [(1,), (1,), 3])

    def test_fewer_values_tell_no_other_one(self):
        places = (3, 5)
        numbers = {plain_value(poly, 9) for factor in range(997)
                   for poly in [poly_sum((1, 1), poly_scaled(none_at(places), factor))]}
        self.assertEqual(len(numbers), 997)

    def test_first_off_by_every_poly(self):
        for _ in range(200):
            many, more = DRAW.randint(0, 6), DRAW.randint(0, 6)
            poly = drawn_poly(many)
            points = list(points_of(poly, DRAW.sample(range(997), many + more)))
            changed = [at for at in range(many, many + more) if DRAW.random() < 0.3]
            for at in changed:
                points[at] = (points[at][0], (points[at][1] + DRAW.randint(1, 996)) % 997)
            wanted = tuple(range(many)) + (changed[0],) if changed else None
            self.assertEqual(first_off(tuple(points), many), wanted)
            if wanted is not None:
                self.assertIs(is_off(tuple(points), many, wanted), True)

    def test_is_off_both_ways(self):
        for _ in range(40):
            many = DRAW.randint(0, 3)
            poly = drawn_poly(many)
            points = list(points_of(poly, DRAW.sample(range(997), 6)))
            points[DRAW.randrange(6)] = (points[0][0], 1) if DRAW.random() < 0.5 else points[5]
            points = tuple({place: (place, number) for place, number in points}.values())
            for indices in itertools.combinations(range(len(points)), many + 1):
                few = tuple(points[index] for index in indices)
                self.assertIs(is_off(points, many, indices), len(through(few)) > many)
            either = first_off(points, many) is None
            none_off = not any(is_off(points, many, indices)
                               for indices in itertools.combinations(range(len(points)), many + 1))
            self.assertIs(either, none_off)

    def test_off_at_the_edges(self):
        self.assertEqual(first_off((), 0), None)
        self.assertEqual(first_off(((4, 0), (5, 3)), 0), (1,))
        self.assertEqual(first_off(drawn_points(60), 60), None)
        self.assertIs(is_off(((4, 0), (5, 3)), 0, (1,)), True)
        self.assertIs(is_off(((4, 0), (5, 3)), 0, (0,)), False)
        self.assertIs(is_off(((4, 0), (5, 3)), 60, ()), False)

    def test_is_off_takes_every_value(self):
        points = ((0, 5), (1, 7), (2, 8), (3, 8))
        for value in wrong.ODD + ((0, True, 2), (False, 1, 2), (2, 1, 0), (0, 1, 4), (-1, 0, 1), (0, 0, 2), (0, 1),
                                  (0, 1, 2, 3), [0, 1, 2], "012", (0, 1, 10 ** 59)):
            self.assertIs(is_off(points, 2, value), False, repr(value)[:60])
        for value in ((0, 1, 2), (0, 1, 3), (1, 2, 3)):
            self.assertIs(is_off(points, 2, value), True)

    def test_wrong_points(self):
        odd = (errors.InvalidPoly, wrong.odd_but(are_points) + [((1, 2), (1, 2)), ((1, 2), (1, 3)), ((1, 2, 3),),
                                                                ((1, True),), ((997, 1),), drawn_points(61)])
        places = (errors.InvalidPoly, wrong.odd_but(are_places) + [(3, 3), tuple(range(61))])
        many = (errors.InvalidNumber, wrong.odd_but(is_many))
        cell = (errors.InvalidNumber, wrong.odd_but(wrong.is_cell))
        wrong.check_wrong(self, none_at, (tuple(range(60)),), (places,))
        wrong.check_wrong(self, through, (drawn_points(60),), (odd,))
        wrong.check_wrong(self, numbers_at, (tuple(range(60)), 996), (places, cell))
        wrong.check_wrong(self, first_off, (drawn_points(3), 60), (odd, many))
        wrong.check_wrong(self, is_off, (drawn_points(3), 0, None), (odd, many, None))

    def test_what_is_not_true(self):
        points = ((0, 1), (1, 2))
        self.assertEqual([first_off(points[:1], 1), first_off(points[1:], 1), first_off(points, 1)],
                         [None, None, (0, 1)])
        nowhere = (0, 996) + (0,) * 995 + (1,)
        self.assertTrue(is_poly(nowhere))
        self.assertTrue(all(plain_value(nowhere, cell) == 0 for cell in range(0, 997, 7)))


class KernelTest(unittest.TestCase):
    def drawn_rows(self, many):
        rows = [[DRAW.choice((0, 0, 1, DRAW.randrange(997))) for _ in range(many)] for _ in range(DRAW.randint(0, 6))]
        if len(rows) > 2 and DRAW.random() < 0.5:
            rows[1] = [(2 * one + 3 * other) % 997 for one, other in zip(rows[0], rows[2])]
        return tuple(tuple(row) for row in rows)

    def test_vectors_are_those_of_the_columns_without_a_lead(self):
        for _ in range(200):
            many = DRAW.randint(0, 6)
            rows = self.drawn_rows(many)
            ranks = [plain_rank([row[:column] for row in rows]) for column in range(many + 1)]
            free = [column for column in range(many) if ranks[column] == ranks[column + 1]]
            vectors = kernel(rows, many)
            self.assertEqual(len(vectors), len(free))
            for vector, own in zip(vectors, free):
                self.assertTrue(wrong.is_cells(vector) and len(vector) == many)
                self.assertEqual([vector[column] for column in free], [int(column == own) for column in free])
                for row in rows:
                    self.assertEqual(sum(one * other for one, other in zip(row, vector)) % 997, 0)

    def test_fewer_rows_than_columns_leave_a_vector(self):
        for _ in range(50):
            many = DRAW.randint(1, 6)
            rows = self.drawn_rows(many)[:many - 1]
            self.assertTrue(kernel(rows, many))

    def test_edges(self):
        self.assertEqual([kernel((), 0), kernel(((), ()), 0), kernel((), 2), kernel(((0, 0),), 2)],
                         [(), (), ((1, 0), (0, 1)), ((1, 0), (0, 1))])
        rows = tuple(tuple(int(row == column) for column in range(60)) for row in range(60))
        self.assertEqual(kernel(rows, 60), ())
        self.assertEqual(len(kernel(rows[:59], 60)), 1)

    def test_wrong_rows(self):
        def are_rows_of_two(value):
            return isinstance(value, tuple) and len(value) <= 60 and all(
                wrong.is_cells(row) and len(row) == 2 for row in value)
        odd = wrong.odd_but(are_rows_of_two) + [((1, 2), (1,)), ((1, 997),), ((1, True),), [(1, 2)], ((1, 2),) * 61]
        many = wrong.odd_but(is_many)
        wrong.check_wrong(self, kernel, ((), 2), ((errors.InvalidCells, odd), (errors.InvalidNumber, many)))

    def test_rows_are_looked_at_first_whatever_many_is(self):
        for many in (None, True, "2", -1, 61, 10 ** 99, (2,)):
            wrong.check_raises(self, errors.InvalidCells, kernel, (((1, 2),), many))
            wrong.check_raises(self, (errors.InvalidNumber, {"given": many}), kernel, ((), many))
        wrong.check_raises(self, (errors.InvalidNumber, {"given": 61}), kernel, (((0,) * 61,), 61))
        wrong.check_raises(self, errors.InvalidCells, kernel, (((1, 2),), 3))


if __name__ == "__main__":
    unittest.main()
