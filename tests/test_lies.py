"""Frames that lie: polys with few faults, and papers that there are none."""

import itertools
import random
import unittest

from stillread import errors
from stillread.base.polys import none_at, poly_divided, poly_product, poly_scaled, poly_sum, through, value_at
from stillread.lots import wrong as module
from stillread.lots.spread import payloads
from stillread.lots.wrong import (
    all_near, faults, is_lot_paper, is_none_paper, is_two_near, lot_cells, lot_paper, most_wrong, near_poly,
    none_paper, serves, two_near,
)
from tests import wrong
from tests.bodies import drawn_cells, drawn_length, plain_k
from tests.examples import run_examples

EXAMPLES = """
>>> [near_poly(2, (), (5, 7, 9, 0), 1), near_poly(2, (), (5, 7, 9, 0), 0), most_wrong(2, (), (5, 7, 9, 0)), faults(2, (), (5, 7, 9, 0), (5, 2)), near_poly(2, (1,), (3, None, 994, 5), 1)]
[(5, 2), None, 1, (3,), (3, 994)]
>>> [is_none_paper(2, (), (0, 0, 1, 1), 1, none_paper(2, (), (0, 0, 1, 1), 1)), all_near(2, (), (0, 0, 1), 1), two_near(1, (), 2, (0,), 0)]
[True, ((), (0, 499), (996, 1)), None]
>>> [is_two_near(1, (), 2, (0, 1), 1, ((0, 1), (), (1,))), is_two_near(1, (), 2, (0, 1), 1, two_near(1, (), 2, (0, 1), 1)), serves(2, (0,), (0, 5)), serves(2, (1,), (0, 5))]
[True, True, True, False]
>>> [lot_cells(2, ((1, 2, 0, 0, 0, 0), (1, 2, 0, 0, 0, 0), (9, 2, 0, 0, 0, 0)), 1), lot_paper(2, ((1, 2, 0, 0, 0, 0), (1, 2, 0, 0, 0, 0), (9, 2, 0, 0, 0, 0)), 1)]
[((1, 2), (2,)), None]
>>> near_poly(2, (), (5, 7, 9), 1)
raises Refused(('wrong', 0))
"""
DRAW = random.Random(80)
K = (errors.InvalidNumber, wrong.odd_but(lambda value: wrong.is_int(value, 1, 8)) + [0, 9, True])
WORD = (errors.InvalidCells, [value for value in wrong.ODD if not (
    isinstance(value, tuple) and 2 <= len(value) <= 16 and all(x is None or wrong.is_cell(x) for x in value))] + [
        [1, 2, 3], (1,), (1, True), (1, "a"), (1, 997), (1, -1), (0,) * 17, (1, (2,)), (None, 1, 2, False)])
WRONG = (errors.InvalidNumber, wrong.odd_but(lambda value: wrong.is_int(value, 0, 8)) + [9, -1, True, False])
POLY = (errors.InvalidPoly, wrong.odd_but(lambda value: wrong.is_poly(value) and len(value) <= 60) + [
    (1, 0), (0,), [1], (1, True), (1,) * 61])


def is_sure(value, k=2):
    right = isinstance(value, tuple) and all(wrong.is_int(x, 0, k - 1) for x in value)
    return right and list(value) == sorted(set(value))


SURE = (errors.InvalidOperation, wrong.odd_but(is_sure) + [
    (2,), (0, 0), (1, 0), [0], (True,), (0, True), (-1,), (0, 1, 2), 0, None])


def drawn_serving(k, sure):
    """A drawn serving poly."""
    rest = [DRAW.randrange(997) for _ in range(DRAW.randint(0, k - len(sure)))]
    while rest and rest[-1] == 0:
        rest.pop()
    return poly_product(none_at(sure), tuple(rest))


def drawn_sure(k):
    many = DRAW.choice((0, 0, 1, k, DRAW.randint(0, k)))
    return tuple(sorted(DRAW.sample(range(k), min(many, k))))


def drawn_case(most=16):
    """k, sure indices, a word near to a drawn serving poly, and this poly."""
    k = DRAW.choice((1, 2, 3, 8, DRAW.randint(1, 8)))
    sure = drawn_sure(k)
    poly, many = drawn_serving(k, sure), DRAW.randint(k, max(most, k))
    word = [value_at(poly, index) for index in range(many)]
    for index in range(many):
        if DRAW.random() < 0.15:
            word[index] = None
    for _ in range(DRAW.randint(0, 4)):
        index = DRAW.randrange(many)
        if word[index] is not None:
            word[index] = DRAW.choice(((word[index] + 1) % 997, DRAW.randrange(997)))
    return k, sure, tuple(word), poly


def plain_standing(sure, word):
    return [index for index in range(len(word)) if word[index] is not None and index not in sure]


def plain_faults(sure, word, poly):
    return tuple(index for index in plain_standing(sure, word) if value_at(poly, index) != word[index])


def plain_serves(k, sure, poly):
    return len(poly) <= k and all(value_at(poly, index) == 0 for index in sure)


def plain_near(k, sure, word, most):
    """All serving polys with at most so many faults, by all choices of standing indices; few enough of them."""
    standing = plain_standing(sure, word)
    lacking = k - len(sure)
    found = set()
    for some in itertools.combinations(standing, lacking):
        points = tuple((index, 0) for index in sure) + tuple((index, word[index]) for index in some)
        poly = through(tuple(sorted(points)))
        if len(plain_faults(sure, word, poly)) <= most:
            found.add(poly)
    return tuple(sorted(found))


def plain_paper(k, sure, word, most, value):
    """Whether the value, of the right kinds, is a paper by the words of [8.3]."""
    some, q, l = value
    standing = plain_standing(sure, word)
    if list(some) != sorted(set(some)) or not set(some) <= set(standing) or len(some) < k + 2 * most - len(sure):
        return False
    if l == () or len(l) - 1 > most or len(q) - 1 >= k + most or any(value_at(q, index) for index in sure):
        return False
    if any(value_at(q, index) != word[index] * value_at(l, index) % 997 for index in some):
        return False
    quotient, rest = poly_divided(q, l)
    return bool(rest) or not plain_serves(k, sure, quotient) or len(plain_faults(sure, word, quotient)) > most


class PolysTest(unittest.TestCase):
    def test_examples(self):
        run_examples(self, EXAMPLES, {**vars(errors), **vars(module)})

    def test_constants(self):
        self.assertEqual((module.MOST_FRAMES, module.MOST_ROWS), (16, 8))

    def test_serves_and_faults(self):
        for _ in range(200):
            k, sure, word, poly = drawn_case()
            other = DRAW.choice((poly, poly_sum(poly, (1,)), poly_scaled(poly, 5), (0,) * k + (1,), ()))
            self.assertIs(serves(k, sure, other), plain_serves(k, sure, other))
            if plain_serves(k, sure, other):
                self.assertEqual(faults(k, sure, word, other), plain_faults(sure, word, other))
            else:
                wrong.check_raises(self, errors.InvalidOperation, faults, (k, sure, word, other))
        self.assertEqual([serves(2, (), (1,) * 2), serves(2, (), (1,) * 3), serves(2, (0, 1), ()), serves(1, (0,), (1,))],
                         [True, False, True, False])
        self.assertEqual(faults(2, (0,), (7, 3, None, 1), (0, 3)), (3,))
        self.assertEqual(faults(2, (), (None, None), (0, 3)), ())

    def test_most_wrong(self):
        for _ in range(200):
            k, sure, word, poly = drawn_case()
            sum_of = len(plain_standing(sure, word)) + len(sure)
            right = [e for e in range(9) if 2 * e + k <= sum_of]
            self.assertEqual(most_wrong(k, sure, word), max(right) if right else None)
        self.assertEqual([most_wrong(2, (), (1, None)), most_wrong(1, (0,), (5,)), most_wrong(1, (), (1,) * 16),
                          most_wrong(8, tuple(range(8)), (1,) * 16), most_wrong(1, (0,), (None,))],
                         [None, 0, 7, 4, 0])

    def test_near_or_a_paper_that_none_is(self):
        counts = {True: 0, False: 0}
        for _ in range(500):
            k, sure, word, poly = drawn_case()
            most = most_wrong(k, sure, word)
            for e in [] if most is None else range(most + 1):
                near, paper = near_poly(k, sure, word, e), none_paper(k, sure, word, e)
                counts[near is None] += 1
                if near is None:
                    self.assertGreater(len(plain_faults(sure, word, poly)), e)
                    self.assertTrue(plain_paper(k, sure, word, e, paper))
                    self.assertIs(is_none_paper(k, sure, word, e, paper), True)
                else:
                    self.assertTrue(plain_serves(k, sure, near))
                    self.assertLessEqual(len(plain_faults(sure, word, near)), e)
                    self.assertIsNone(paper)
                    if len(plain_faults(sure, word, poly)) <= e:
                        self.assertEqual(near, poly)
        self.assertGreater(min(counts.values()), 300)

    def test_near_polys_by_all_choices(self):
        for _ in range(120):
            k, sure, word, poly = drawn_case(9)
            most = most_wrong(k, sure, word)
            for e in [] if most is None else range(most + 1):
                every = plain_near(k, sure, word, e)
                self.assertLessEqual(len(every), 1)
                self.assertEqual(near_poly(k, sure, word, e), every[0] if every else None)

    def test_papers_bent(self):
        counts = {True: 0, False: 0}
        for _ in range(300):
            k, sure, word, poly = drawn_case()
            e = DRAW.randint(0, 3)
            standing = plain_standing(sure, word)
            near = drawn_serving(k, sure) if DRAW.random() < 0.5 else poly
            l = none_at(tuple(DRAW.sample(standing, min(e, len(standing)))))
            value = (tuple(standing), poly_product(near, l), l)
            for _ in range(4):
                self.assertIs(is_none_paper(k, sure, word, e, value), plain_paper(k, sure, word, e, value))
                counts[plain_paper(k, sure, word, e, value)] += 1
                value = self.bent(value, k, e)
        self.assertGreater(counts[False], 300)

    def bent(self, value, k, e):
        some, q, l = value
        kind = DRAW.randrange(4)
        if kind == 0:
            return (some[:-1], q, l)
        if kind == 1:
            return (some, poly_sum(q, (0,) * DRAW.randint(0, k + e) + (DRAW.randint(1, 996),)), l)
        if kind == 2:
            return (some, q, poly_sum(l, (0,) * DRAW.randint(0, e + 1) + (1,)))
        return (some, (), ())

    def test_every_right_paper_is_taken(self):
        k, sure, word, e = 2, (), (0, 0, 1, 1, None, 500), 1
        told = set()
        for some in ((0, 1, 2, 3), (0, 1, 2, 5), (0, 1, 2, 3, 5)):
            rows = [(q, l) for q in ((0, 0, 1), (0, 996, 1), (), (1,), (0, 332, 332)) for l in (
                (1,), (0, 1), (996, 1), (1, 1), ())]
            for q, l in rows:
                right = plain_paper(k, sure, word, e, (some, q, l))
                self.assertIs(is_none_paper(k, sure, word, e, (some, q, l)), right)
                told.add(right)
        paper = none_paper(k, sure, word[:4], e)
        for factor in range(1, 997, 83):
            value = (paper[0], poly_scaled(paper[1], factor), poly_scaled(paper[2], factor))
            self.assertIs(is_none_paper(k, sure, word[:4], e, value), True)
        self.assertIs(is_none_paper(k, sure, word[:4], e, (paper[0][:-1],) + paper[1:]), False)
        self.assertIs(is_none_paper(k, sure, word[:4], e, (paper[0], paper[1], ())), False)

    def test_values_that_are_no_paper(self):
        word = (0, 0, 1, 1)
        some, q, l = none_paper(2, (), word, 1)
        for value in wrong.ODD + (
            [some, q, l], (list(some), q, l), (some, list(q), l), (some, q, list(l)), (some, q), (some, q, l, 0),
            (some[::-1], q, l), ((False,) + some[1:], q, l), (some, q + (0,), l), (some, q, l + (0,)),
            (None, q, l), (some, None, l), (some, q, None), (some + (4,), q, l), (some + some, q, l),
            (some, (), none_at((2, 3))),
        ):
            self.assertIs(is_none_paper(2, (), word, 1, value), False, repr(value)[:60])
        self.assertIs(is_none_paper(2, (0,), (5, 0, 1, None, 1), 0, ((1, 2), (), (1,))), False)
        self.assertIs(is_none_paper(2, (0,), (0, 0, 1, None, 1), 0, ((0, 1), (), (1,))), False)
        self.assertIs(is_none_paper(2, (0,), (5, 0, 1, None, 1), 0, ((1,), (), (1,))), True)
        self.assertIs(is_none_paper(2, (0,), (5, 0, 1, None, 1), 0, ((3,), (), (1,))), False)
        self.assertIs(is_none_paper(2, (0,), (0, 0, 1, None, 1), 0, ((0,), (), (1,))), False)
        self.assertIs(is_none_paper(2, (), word, 1, (some, q, l)), True)
        for e in range(2, 9):
            self.assertIs(is_none_paper(2, (), word, e, (some, q, l)), False)
        self.assertIs(is_none_paper(1, (), (0, 1), 0, ((0, 1), (0, 1), (1,))), False)
        self.assertIs(is_none_paper(1, (), (0, 1), 0, ((0,), (), (1,))), True)

    def test_just_enough_and_one_above(self):
        for k in range(1, 9):
            for sure in ((), (0,), tuple(range(k))):
                for e in range(0, 5):
                    many = k + 2 * e - len(sure)
                    standing = [index for index in range(16) if index not in sure][:many]
                    if len(standing) < many or many < 0:
                        continue
                    word = tuple(0 if index in standing else None for index in range(16))
                    self.assertEqual(near_poly(k, sure, word, e), ())
                    if e < 8:
                        reason = (errors.Refused, {"reason": ("wrong", e)})
                        wrong.check_raises(self, reason, near_poly, (k, sure, word, e + 1))
                        wrong.check_raises(self, reason, none_paper, (k, sure, word, e + 1))
        wrong.check_raises(self, (errors.Refused, {"reason": ("wrong", None)}), near_poly, (2, (), (1, None), 0))

    def test_all_near(self):
        counts = {0: 0, 1: 0, 2: 0}
        for _ in range(600):
            k, sure, word, poly = drawn_case(10)
            if DRAW.random() < 0.5:
                word = tuple(None if cell is None else DRAW.randrange(2) for cell in word)
            e, standing = DRAW.randint(0, 4), plain_standing(sure, word)
            if k > len(sure) and len(standing) - e < k - len(sure):
                wrong.check_raises(self, (errors.TooMany, {"most": 997}), all_near, (k, sure, word, e))
                continue
            told = all_near(k, sure, word, e)
            self.assertEqual(told, plain_near(k, sure, word, e) if k > len(sure) else ((),) * (
                len(plain_faults(sure, word, ())) <= e))
            counts[min(len(told), 2)] += 1
        self.assertGreater(min(counts.values()), 15)

    def test_all_near_at_the_edges(self):
        self.assertEqual(all_near(8, (), (0,) * 8 + (1,) * 8, 4), ())
        self.assertEqual(all_near(8, (), (0,) * 12 + (1,) * 4, 4), ((),))
        self.assertEqual(len(all_near(1, (), tuple(range(16)), 4)), 0)
        self.assertEqual(all_near(1, (), (1, 2, 3), 2), ((1,), (2,), (3,)))
        self.assertEqual(all_near(2, (0, 1), (None, None), 0), ((),))
        self.assertEqual(all_near(2, (0, 1), (None, None, 1, 1), 1), ())
        self.assertEqual(all_near(2, (1,), (4, 5), 0), ((4, 993),))
        wrong.check_raises(self, (errors.TooMany, {"most": 997}), all_near, (2, (), (4, 5), 1))
        wrong.check_raises(self, (errors.TooMany, {"most": 997}), all_near, (2, (), (4, None), 0))
        wrong.check_raises(self, (errors.TooMany, {"most": 997}), all_near, (1, (), (4,), 1))

    def test_wrong_arguments(self):
        word = (5, 7, 9, 0)
        wrong.check_wrong(self, serves, (2, (), (1,)), (K, SURE, POLY))
        then = ((errors.InvalidOperation, (2, (), word, (1, 2, 3)), (0, 1, 2, 3)),)
        wrong.check_wrong(self, faults, (2, (), word, (1,)), (K, SURE, WORD, POLY), then)
        wrong.check_wrong(self, most_wrong, (2, (), word), (K, SURE, WORD))
        refused = (errors.Refused, {"reason": ("wrong", 1)})
        for function in (near_poly, none_paper):
            then = ((refused, (2, (), word, 2), (0, 1, 2, 3)), (refused, (2, (), word, 8), ()))
            wrong.check_wrong(self, function, (2, (), word, 1), (K, SURE, WORD, WRONG), then)
        wrong.check_wrong(self, is_none_paper, (2, (), word, 8, None), (K, SURE, WORD, WRONG, None))
        few = (errors.InvalidNumber, wrong.odd_but(lambda value: wrong.is_int(value, 0, 4)) + [5, -1, True])
        then = (((errors.TooMany, {"most": 997}), (2, (), word, 3), (0, 1, 2, 3)),)
        wrong.check_wrong(self, all_near, (2, (), word, 2), (K, SURE, WORD, few), then)


class TwoNearTest(unittest.TestCase):
    def test_two_near_exactly_where_the_document_says(self):
        counts = {True: 0, False: 0}
        for _ in range(600):
            k = DRAW.randint(1, 8)
            sure, many, e = drawn_sure(k), DRAW.randint(k, 16), DRAW.randint(0, 8)
            free = [index for index in range(many) if index not in sure]
            standing = tuple(sorted(DRAW.sample(free, DRAW.randint(0, len(free)))))
            at_most_one = k == len(sure) or 2 * e + k <= len(standing) + len(sure)
            told = two_near(k, sure, many, standing, e)
            self.assertEqual(told is None, at_most_one)
            counts[at_most_one] += 1
            if told is not None:
                self.assertTrue(self.is_plain(k, sure, many, standing, e, told))
                self.assertIs(is_two_near(k, sure, many, standing, e, told), True)
                word, one, other = told
                self.assertIs(is_two_near(k, sure, many, standing, e, (word, other, one)), True)
                shift = drawn_serving(k, sure)
                moved = tuple(None if cell is None else (cell + value_at(shift, index)) % 997
                              for index, cell in enumerate(word))
                value = (moved, poly_sum(one, shift), poly_sum(other, shift))
                self.assertIs(is_two_near(k, sure, many, standing, e, value), True)
                self.assertIs(is_two_near(k, sure, many, standing, e, (word, one, one)), False)
            self.assertIs(is_two_near(k, sure, many, standing, e, ((0,) * many, (), (1,))),
                          self.is_plain(k, sure, many, standing, e, ((0,) * many, (), (1,))))
        self.assertGreater(min(counts.values()), 100)

    def is_plain(self, k, sure, many, standing, e, value):
        word, one, other = value
        if len(word) != many or tuple(at for at in range(many) if word[at] is not None) != standing or one == other:
            return False
        return all(plain_serves(k, sure, poly) and len(plain_faults(sure, word, poly)) <= e for poly in (one, other))

    def test_values_that_are_none(self):
        right = ((0, 1), (), (1,))
        for value in wrong.ODD + (
            list(right), ([0, 1], (), (1,)), ((0, True), (), (1,)), ((0, 1), [], (1,)), ((0, 1), (), (True,)),
            ((0, 1), (), (1, 0)), ((0, 1), (), ()), ((0, 1, 0), (), (1,)), ((0,), (), (1,)), ((0, None), (), (1,)),
            ((0, 1), (), (2,)), ((0, 1), (), (0, 1)), right[:2], right + (1,), (None, (), (1,)), ((0, 1), None, (1,)),
            ((False, 1), (), (1,)), ((0, 1), (), None), ((0, 997), (), (1,)), ((0, 1, None), (), (1,)),
            ((0, 0), (5,), ()), ((0, 0), (), (5,)),
        ):
            self.assertIs(is_two_near(1, (), 2, (0, 1), 1, value), False, repr(value)[:60])
        self.assertIs(is_two_near(1, (), 2, (0, 1), 0, right), False)
        self.assertIs(is_two_near(1, (), 2, (0, 1), 8, right), True)
        self.assertIs(is_two_near(2, (0,), 3, (1, 2), 1, ((0, 0, 1), (), (0, 1))), False)
        self.assertIs(is_two_near(2, (0,), 3, (1, 2), 1, ((None, 0, 2), (), (0, 1))), True)

    def test_wrong_arguments(self):
        many = (errors.InvalidNumber, wrong.odd_but(lambda value: wrong.is_int(value, 2, 16)) + [1, 17, True])

        def are_standing(value):
            return is_sure(value, 4) and 1 not in value
        standing = (errors.InvalidOperation, wrong.odd_but(are_standing) + [
            (0, 1), (1,), (4,), (2, 0), [0], (0, 0), (False, 2), None])
        good = (2, (1,), 4, (0, 2), 1)
        arguments = (K, SURE, many, standing, WRONG)
        wrong.check_wrong(self, two_near, good, arguments)
        wrong.check_wrong(self, is_two_near, good + (None,), arguments + (None,))


class LotsTest(unittest.TestCase):
    def drawn(self):
        """The length, the new cells and the payloads of a lot in which few frames lie."""
        length = drawn_length(DRAW)
        cells, k = drawn_cells(DRAW, length), plain_k(length)
        rows = [list(row) for row in payloads(cells, DRAW.randint(k, 16))]
        for _ in range(DRAW.randint(0, 4)):
            index, column = DRAW.randrange(len(rows)), DRAW.randrange(6)
            filled = 6 * index + column >= length if index < k else k == 1 and column >= length
            if not filled:
                rows[index][column] = (rows[index][column] + DRAW.randint(0, 996)) % 997
        told = [tuple(row) if DRAW.random() < 0.9 else None for row in rows]
        return length, cells, tuple(told)

    def test_lots_with_lying_frames(self):
        counts = {True: 0, False: 0, "columns": 0, "column": 0}
        for _ in range(400):
            length, cells, rows = self.drawn()
            stand, k = len(rows) - rows.count(None), plain_k(length)
            lying = tuple(at for at, row in enumerate(rows) if row not in (None, payloads(cells, len(rows))[at]))
            for e in range(0, 4):
                if 2 * e + k > stand:
                    most = (stand - k) // 2 if stand >= k else None
                    for function in (lot_cells, lot_paper):
                        wrong.check_raises(self, (errors.Refused, {"reason": ("wrong", most)}), function, (length, rows, e))
                    wrong.check_raises(self, errors.Refused, is_lot_paper, (length, rows, e, None))
                    continue
                told, paper = lot_cells(length, rows, e), lot_paper(length, rows, e)
                self.assertEqual(told is None, paper is not None)
                counts[told is None] += 1
                if len(lying) <= e:
                    self.assertEqual(told, (cells, lying))
                if told is not None:
                    self.assertEqual(len(told[0]), length)
                    wanted = payloads(told[0], len(rows))
                    self.assertEqual(told[1], tuple(at for at, row in enumerate(rows) if row not in (None, wanted[at])))
                    self.assertLessEqual(len(told[1]), e)
                    self.assertIs(is_lot_paper(length, rows, e, None), False)
                else:
                    counts[paper[0]] += 1
                    self.assertIs(is_lot_paper(length, rows, e, paper), True)
        self.assertGreater(min(counts.values()), 20)

    def test_papers_by_columns(self):
        rows = ((1, 2, 0, 0, 0, 0),) * 3 + ((9, 2, 0, 0, 0, 0), (1, 9, 0, 0, 0, 0))
        self.assertEqual(lot_paper(2, rows, 1), ("columns", ((1,), (2,), (), (), (), ())))
        self.assertIsNone(lot_cells(2, rows, 1))
        self.assertEqual(lot_cells(2, rows, 2), ((1, 2), (3, 4)))
        right = ("columns", ((1,), (2,), (), (), (), ()))
        self.assertIs(is_lot_paper(2, rows, 1, right), True)
        self.assertIs(is_lot_paper(2, rows, 2, right), False)
        for value in wrong.ODD + (
            list(right), ("Columns", right[1]), ("columns", right[1][:5]), ("columns", right[1] + ((),)),
            ("columns", list(right[1])), ("columns", ((1,), (2,), (), (), (), (1,))), ("columns", None),
            ("columns", ((9,), (2,), (), (), (), ())), ("columns", ((True,), (2,), (), (), (), ())), ("columns",),
            ("columns", ((1,), [2], (), (), (), ())), right + (1,), ("columns", ((1,), (2,), (), (), (), (0,))),
            ("column", 0, None), ("column", 6, ((0, 1), (), (1,))), ("columns", ((1, 0), (2,), (), (), (), ())),
        ):
            self.assertIs(is_lot_paper(2, rows, 1, value), False, repr(value)[:60])

    def test_papers_of_one_column(self):
        rows = ((1, 2, 0, 0, 0, 0), (2, 2, 0, 0, 0, 0), (3, 2, 0, 0, 0, 0))
        word, paper = "column", lot_paper(2, rows, 1)
        self.assertEqual(paper[:2], (word, 0))
        self.assertIs(is_lot_paper(2, rows, 1, paper), True)
        own = none_paper(1, (), (1, 2, 3), 1)
        self.assertIs(is_lot_paper(2, rows, 1, (word, 0, own)), True)
        for value in ((word, 1, own), (word, False, own), (word, "0", own), [word, 0, own], (word, 0, own, 0),
                      (word, 0), (word, 0, list(own)), ("Column", 0, own), (word, -6, own), (word, 7, own)):
            self.assertIs(is_lot_paper(2, rows, 1, value), False, value)
        last = ((0, 0, 0, 0, 0, 1), (0, 0, 0, 0, 0, 2), (0, 0, 0, 0, 0, 3))
        self.assertIs(is_lot_paper(6, last, 1, (word, 5, own)), True)
        self.assertIs(is_lot_paper(6, last, 1, (word, -1, own)), False)
        filled = (((1, 0, 0, 0, 0, 0), (1,) + (0,) * 5, (2,) + (0,) * 5))
        self.assertIs(is_lot_paper(1, filled, 0, (word, 0, none_paper(1, (), (1, 1, 2), 0))), True)
        self.assertIs(is_lot_paper(1, filled, 0, (word, 3, none_paper(1, (), (1, 1, 2), 0))), False)

    def test_filling_counts_as_sure(self):
        rows = (tuple(range(1, 7)), (7, 0, 0, 0, 0, 0), None, None)
        self.assertEqual(lot_cells(7, rows, 0), ((1, 2, 3, 4, 5, 6, 7), ()))
        rows = (None, None, (13, 995, 994, 993, 992, 991), (19, 993, 991, 989, 987, 985))
        self.assertEqual(lot_cells(7, rows, 0), ((1, 2, 3, 4, 5, 6, 7), ()))
        self.assertEqual(lot_cells(0, ((0,) * 6,), 0), ((), ()))

    def test_what_is_not_true(self):
        self.assertEqual(all_near(1, (), (5, 6, 7), 2), ((5,), (6,), (7,)))
        self.assertEqual(near_poly(1, (0,), (3, 5, 5, 5), 0), None)
        self.assertEqual(near_poly(1, (), (5, 6, 7, 5, 5), 2), (5,))
        row = (1, 0, 0, 0, 0, 0)
        wrong.check_raises(self, (errors.Refused, {"reason": ("wrong", 0)}), lot_cells, (1, (row, row), 1))

    def test_wrong_arguments(self):
        row = (1, 2, 3, 4, 5, 0)
        length = (errors.InvalidNumber, wrong.odd_but(lambda value: wrong.is_int(value, 0, 48)) + [49, -1, True])
        given = (errors.InvalidCells, wrong.odd_but(lambda value: value == (None,)) + [
            [row], (row,) * 17, (), ((1, 2, 3, 4, 5, 6),), (row[:5],), (row + (0,),), (list(row),), ((True,) + row[1:],),
            (row, None, (0, 0, 0, 0, 0, 1)), (row, 0), (row, False), ((997,) + row[1:],)])
        refused = (errors.Refused, {"reason": ("wrong", 1)})
        then = ((refused, (5, (row,) * 3, 2), (0, 1, 2)),
                ((errors.Refused, {"reason": ("wrong", None)}), (5, (None,), 0), (0, 1, 2)))
        for function, rest in ((lot_cells, ()), (lot_paper, ()), (is_lot_paper, (None,))):
            told = tuple((error, arguments + rest, places) for error, arguments, places in then)
            wrong.check_wrong(self, function, (5, (row,) * 3, 1) + rest, (length, given, WRONG) + (None,) * len(rest), told)
        for length, rows, right in (
            (7, ((1,) * 6, (1, 0, 0, 0, 0, 0), (1,) * 6), True), (7, ((1,) * 6, (1, 1, 0, 0, 0, 0), (1,) * 6), False),
            (7, ((1,) * 6,), False), (6, ((1,) * 6,), True), (5, ((1,) * 6,), False),
            (5, (row, row, (1, 1, 1, 1, 1, 1)), False),
        ):
            if right:
                self.assertIsInstance(lot_paper(length, rows, 0), (tuple, type(None)))
            else:
                wrong.check_raises(self, errors.InvalidCells, lot_paper, (length, rows, 0))


if __name__ == "__main__":
    unittest.main()
