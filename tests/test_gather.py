"""Lots: known places, clashes, and what is told, open and fitting."""

import itertools
import random
import unittest

from stillread import errors
from stillread.base.polys import is_poly, value_at
from stillread.lots import gather as module
from stillread.lots import spread
from stillread.lots.gather import (
    are_unlike_cells, cell_answer, fit_number, fitting_cells, is_cell_paper, is_fitting, is_lot, is_lot_clash,
    is_open_paper, known_places, lot_clash, lots_of, told_cells, told_payload, unlike_cells,
)
from stillread.lots.spread import all_frames, frames_of, payloads, with_payload
from tests import wrong
from tests.bodies import drawn_cells, drawn_deed, drawn_length, drawn_lot, drawn_save, plain_k
from tests.examples import run_examples
from tests.stories import drawn_history
from tests.test_histories import NEXT, STORY
from tests.test_spread import ODD_BODIES

EXAMPLES = """
>>> SEVEN = frames_of(9, (3, 1, None, ("put", "c", (1, 2, 3, 4, 5, 6, 7)), 4), 0)
>>> [told_cells(SEVEN[2:3]), told_cells(SEVEN[1:3]), known_places(SEVEN[2:3], 1), known_places(SEVEN[2:3], 0), fit_number(SEVEN[2:3])]
[(None, 2, 3, 4, 5, 6, None), (1, 2, 3, 4, 5, 6, 7), {1: 0, 2: 995}, {2: 13}, 997]
>>> [cell_answer(SEVEN[2:3], 0)[0], cell_answer(SEVEN[2:3], 1), cell_answer(SEVEN[:1], 3)[:2], cell_answer(SEVEN[2:], 6)]
['open', ('told', 2, ('poly', (1, 2), (2, 995))), ('told', 4), ('told', 7, ('poly', (2, 3), (1, 6)))]
>>> [told_payload(SEVEN[2:3], 3), are_unlike_cells(SEVEN[2:3], 6, ((0, 2, 3, 4, 5, 6, 505), (1, 2, 3, 4, 5, 6, 7))), is_open_paper(SEVEN[2:3], 0, (0, 1)), is_open_paper(SEVEN[2:3], 0, (995, 1))]
[(None, 993, 991, 989, 987, 985), True, False, True]
>>> OTHER = SEVEN[:2] + (with_payload(SEVEN[3], 3, (0, 993, 991, 989, 987, 985)),)
>>> [lot_clash(OTHER)[:2], is_lot_clash(OTHER, ("poly", 0, (0, 1), 3, (1, 6))), is_lot_clash(OTHER, ("poly", 0, (1, 3), 0, (509, 495))), lot_clash(SEVEN)]
[('poly', 0), True, True, None]
>>> cell_answer(SEVEN[2:3], 7)
raises InvalidNumber(7)
"""
DRAW = random.Random(70)
CELLS = (1, 2, 3, 4, 5, 6, 7)
SEVEN = frames_of(9, (3, 1, None, ("put", "c", CELLS), 4), 0)
OTHER = SEVEN[:2] + (with_payload(SEVEN[3], 3, (0, 993, 991, 989, 987, 985)),)
TWICE = tuple(sorted((SEVEN[0], with_payload(SEVEN[0], 0, (9, 2, 3, 4, 5, 6)))))
LOT = (errors.InvalidBody, [value for value in wrong.ODD] + [
    list(SEVEN), SEVEN[::-1], SEVEN[:1] * 2, SEVEN[0], SEVEN[:1] + frames_of(9, NEXT, 3)[:1], (SEVEN[0], None)] + [
        (body,) for body in ODD_BODIES[:-1]])


def refused_clash(case, lot, function, *rest):
    """The call is refused with some clash of the lot."""
    with case.assertRaises(errors.Refused) as caught:
        function(lot, *rest)
    case.assertIs(is_lot_clash(lot, caught.exception.reason), True)


def drawn_put(draw, n=None):
    """The frames of a put with drawn new cells, and these cells."""
    length = drawn_length(draw)
    cells, k = drawn_cells(draw, length), plain_k(length)
    save = (3, 7, None, ("put", "ab", cells), n or draw.choice((k, 16, draw.randint(k, 16))))
    return frames_of(4, save, 0), cells


def plain_places(lot, column):
    """The known places of a column, by the words of the document."""
    length = lot[0][12]
    known = {row: 0 for row in range(plain_k(length)) if 6 * row + column >= length}
    known.update({body[3]: body[14 + column] for body in lot})
    return {place: known[place] for place in sorted(known)}


def bent(draw, lot):
    """The lot with one payload that nobody put there."""
    at = draw.randrange(len(lot))
    body = list(lot[at])
    column = draw.randrange(6)
    body[14 + column] = (body[14 + column] + draw.randint(1, 996)) % 997
    other = lot[:at] + (tuple(body),) + lot[at + 1:]
    return other if is_lot(other) else lot


class LotsTest(unittest.TestCase):
    def test_examples(self):
        run_examples(self, EXAMPLES, {**vars(errors), **vars(spread), **vars(module)})

    def test_is_lot(self):
        for value in LOT[1]:
            self.assertIs(is_lot(value), False, repr(value)[:60])
        for value in (SEVEN, SEVEN[1:2], SEVEN[::2], TWICE, OTHER):
            self.assertIs(is_lot(value), True)
        for at in (0, 1, 2, 4, 5, 6, 8, 12):
            body = SEVEN[1][:at] + (SEVEN[1][at] + 1,) + SEVEN[1][at + 1:]
            self.assertIs(is_lot((SEVEN[0], body)), False)

    def test_lots_of_drawn_frames(self):
        for _ in range(60):
            history, trees = drawn_history(DRAW, 10)
            frames = all_frames(8, history)
            some = tuple(DRAW.choices(frames, k=DRAW.randint(0, 30))) if frames else ()
            told = lots_of(some)
            self.assertEqual(list(told), sorted({body[1:3] for body in some}))
            for save, lot in told.items():
                self.assertEqual(lot, tuple(sorted({body for body in some if body[1:3] == save})))
                self.assertIs(is_lot(lot), True)
        unlike = SEVEN[:1] + frames_of(9, (3, 1, None, ("put", "d", ()), 1), 0)
        self.assertEqual(lots_of(unlike[::-1] * 2), {(3, 1): tuple(sorted(unlike))})
        self.assertEqual(lots_of(()), {})

    def test_frames_that_are_none(self):
        other = frames_of(8, NEXT, 3)
        frames = (errors.InvalidFrames, wrong.odd_but(lambda value: value == ()) + [
            list(SEVEN), SEVEN + other, other + SEVEN, SEVEN * 123, SEVEN[:1] * 492, SEVEN[0]] + [
                (body,) for body in ODD_BODIES[:-1]])
        wrong.check_wrong(self, lots_of, (SEVEN,), (frames,))
        self.assertEqual(lots_of(SEVEN[:1] * 491), {(3, 1): SEVEN[:1]})

    def test_known_places(self):
        for _ in range(150):
            frames, cells = drawn_put(DRAW)
            lot = drawn_lot(DRAW, frames)
            for column in range(6):
                self.assertEqual(repr(known_places(lot, column)), repr(plain_places(lot, column)))
        one = frames_of(9, (1, 1, None, ("put", "a", (5,)), 3), 0)[2:]
        self.assertEqual([known_places(one, 0), known_places(one, 1)], [{2: 5}, {0: 0, 2: 0}])
        wrong.check_raises(self, (errors.Refused, {"reason": ("index", 0)}), known_places, (TWICE, 3))
        self.assertEqual(known_places(OTHER, 0), {0: 1, 1: 7, 3: 0})


class ClashTest(unittest.TestCase):
    def test_lots_of_histories_have_no_clash(self):
        for _ in range(100):
            save, ahead = drawn_save(DRAW)
            lot = drawn_lot(DRAW, frames_of(9, save, ahead))
            self.assertIsNone(lot_clash(lot))
            self.assertIs(is_fitting(lot, save[3][-1] if save[3][0] in ("put", "patch") else ()), True)

    def test_either_new_cells_or_a_clash(self):
        counts = {True: 0, False: 0}
        for _ in range(300):
            frames, cells = drawn_put(DRAW, 16)
            lot = drawn_lot(DRAW, frames, 10)
            for _ in range(DRAW.randint(0, 2)):
                lot = bent(DRAW, lot)
            found = lot_clash(lot)
            counts[found is None] += 1
            if found is None:
                self.assertIs(is_fitting(lot, fitting_cells(lot)), True)
                self.assertGreater(fit_number(lot), 0)
            else:
                self.assertIs(is_lot_clash(lot, found), True)
                self.assertEqual(fit_number(lot), 0)
                self.assertIs(is_fitting(lot, cells), False)
                for function in (fitting_cells, told_cells):
                    refused_clash(self, lot, function)
                for function in (told_payload,) + ((cell_answer, unlike_cells) if cells else ()):
                    refused_clash(self, lot, function, 0)
        self.assertGreater(min(counts.values()), 40)

    def test_every_poly_clash_is_taken_and_nothing_else(self):
        known = known_places(OTHER, 0)
        for places in itertools.combinations(range(4), 2):
            for place in range(5):
                for poly in ((1, 6), (509, 495), (1, 664), (), (1,), (7,)):
                    there = all(at in known for at in places + (place,)) and place not in places
                    right = there and all(value_at(poly, at) == known[at] for at in places)
                    right = right and value_at(poly, place) != known[place]
                    self.assertIs(is_lot_clash(OTHER, ("poly", 0, places, place, poly)), right)
        self.assertIs(is_lot_clash(SEVEN, ("poly", 0, (0, 1), 3, (1, 6))), False)
        self.assertIs(is_lot_clash(TWICE, ("index", 0)), True)

    def test_values_that_are_no_clash(self):
        right = ("poly", 0, (0, 1), 3, (1, 6))
        for value in wrong.ODD + (
            list(right), right[:4], right + (1,), ("poly", False, (0, 1), 3, (1, 6)), ("poly", 6, (0, 1), 3, (1, 6)),
            ("poly", 0, [0, 1], 3, (1, 6)), ("poly", 0, (1, 0), 3, (1, 6)), ("poly", 0, (0, True), 3, (1, 6)),
            ("poly", 0, (0, 1), 3, [1, 6]), ("poly", 0, (0, 1), 3, (True, 6)), ("poly", 0, (0, 1), 3, (1, 6, 0)),
            ("poly", 0, (0, 1), None, (1, 6)), ("poly", 0, (0,), 3, (1, 6)), ("poly", 0, (0, 1, 3), 3, (1, 6)),
            ("poly", 0, (0, 1), 1, (1, 6)), ("poly", 1, (0, 1), 3, (1, 6)), ("Poly", 0, (0, 1), 3, (1, 6)),
            ("poly", 0, (0, 1), 2, (1, 6)), ("index", 0), ("index", 3), ("poly", 0, (0, 1), 3, (1, 6, 0, 1)),
            ("poly", -6, (0, 1), 3, (1, 6)), ("poly", 0, (0, 1), 3, None), ("poly", 0, None, 3, (1, 6)),
            ("poly", 0, (0, 1), 3, (1, 5, 1)), ("poly", 0, (0, 3), True, (1, 332)),
        ):
            self.assertIs(is_lot_clash(OTHER, value), False, repr(value)[:60])
        for value in wrong.ODD + (("index", False), ["index", 0], ("index", 1), ("index",), ("index", 0, 0),
                                  ("index", None), ("index", "0"), ("index", 10 ** 59), (0, 0)):
            self.assertIs(is_lot_clash(TWICE, value), False, repr(value)[:60])

    def test_places_and_columns_are_no_truth_values_and_not_below_0(self):
        self.assertIs(is_lot_clash(OTHER, ("poly", 0, (0, 3), 1, (1, 332))), True)
        lot = (SEVEN[0], SEVEN[1], with_payload(SEVEN[2], 2, (13, 995, 994, 993, 992, 5)))
        self.assertIs(is_lot_clash(lot, ("poly", 5, (0, 1), 2, (6, 991))), True)
        self.assertIs(is_lot_clash(lot, ("poly", -1, (0, 1), 2, (6, 991))), False)

    def test_two_frames_with_one_index_go_ahead_of_all_else(self):
        lot = tuple(sorted(OTHER + (with_payload(OTHER[0], 0, (9, 9, 9, 9, 9, 9)),)))
        self.assertEqual(lot_clash(lot), ("index", 0))
        for poly in ((1, 6), (9, 995), (9, 6)):
            self.assertIs(is_lot_clash(lot, ("poly", 0, (0, 1), 3, poly)), False)
        self.assertEqual(lot_clash(TWICE), ("index", 0))
        wrong.check_raises(self, (errors.Refused, {"reason": ("index", 0)}), told_cells, (TWICE,))

    def test_known_filling_clashes(self):
        lot = (SEVEN[0], with_payload(SEVEN[2], 2, (0, 5, 991, 989, 987, 985)))
        self.assertEqual(lot_clash(lot)[:2], ("poly", 1))
        self.assertIs(is_lot_clash(lot, ("poly", 1, (0, 1), 2, (2, 995))), True)
        self.assertIs(is_lot_clash(lot, ("poly", 1, (1, 2), 0, (992, 5))), True)
        self.assertIs(is_lot_clash(lot, ("poly", 0, (0, 2), 1, (1, 996))), False)

    def test_wrong_arguments(self):
        column = (errors.InvalidNumber, wrong.odd_but(lambda value: wrong.is_int(value, 0, 5)) + [6, -1, True])
        twice = (errors.Refused, {"reason": ("index", 0)})
        wrong.check_wrong(self, known_places, (SEVEN, 5), (LOT, column), ((twice, (TWICE, 5), (0, 1)),))
        for function in (lot_clash, fit_number, told_cells, fitting_cells):
            wrong.check_wrong(self, function, (SEVEN,), (LOT,))
        for function in (is_lot_clash, is_fitting):
            wrong.check_wrong(self, function, (SEVEN, None), (LOT, None))


class AnswersTest(unittest.TestCase):
    def test_told_exactly_or_a_poly_that_shows_it_open(self):
        counts = {"told": 0, "open": 0, "own": 0}
        for _ in range(150):
            frames, cells = drawn_put(DRAW)
            lot, k = drawn_lot(DRAW, frames), plain_k(len(cells))
            told = told_cells(lot)
            for at in range(len(cells)):
                known = plain_places(lot, at % 6)
                answer = cell_answer(lot, at)
                counts[answer[0]] += 1
                if at // 6 in known or len(known) >= k:
                    self.assertEqual(answer[:2], ("told", cells[at]))
                    self.assertEqual(told[at], cells[at])
                    self.assertIs(is_cell_paper(lot, at, cells[at], answer[2]), True)
                    self.assertIs(is_cell_paper(lot, at, (cells[at] + 1) % 997, answer[2]), False)
                    counts["own"] += answer[2] == ("own",)
                    self.assertIs(is_open_paper(lot, at, ()), False)
                    wrong.check_raises(self, (errors.Refused, {"reason": ("told",)}), unlike_cells, (lot, at))
                else:
                    self.assertEqual([answer[0], told[at]], ["open", None])
                    self.assertTrue(is_poly(answer[1]) and len(answer[1]) <= k)
                    self.assertTrue(all(value_at(answer[1], place) == 0 for place in known))
                    self.assertNotEqual(value_at(answer[1], at // 6), 0)
                    self.assertIs(is_open_paper(lot, at, answer[1]), True)
                    one, other = unlike_cells(lot, at)
                    self.assertTrue(is_fitting(lot, one) and is_fitting(lot, other) and one[at] != other[at])
                    self.assertIs(are_unlike_cells(lot, at, (one, other)), True)
                    self.assertIs(are_unlike_cells(lot, at, (other, one)), True)
                    self.assertIs(are_unlike_cells(lot, at, (one, one)), False)
        self.assertGreater(min(counts.values()), 100)

    def test_all_new_cells_of_small_lots(self):
        for rows in ((0,), (2,), (3,), (1, 2), ()):
            lot = tuple(SEVEN[row] for row in rows) or SEVEN[3:]
            fitting = [(a, 2, 3, 4, 5, 6, b) for a in range(997) for b in ((13 + a) * 499 % 997, (19 + 2 * a) * pow(
                3, -1, 997) % 997, 7)]
            right = [cells for cells in fitting if all(
                payloads(cells, 4)[body[3]] == body[14:] for body in lot)]
            for cells in DRAW.sample(fitting, 60) + right[:60]:
                self.assertIs(is_fitting(lot, cells), cells in right)
            self.assertEqual(fit_number(lot), 997 if len(lot) == 1 else 1)
        self.assertEqual(fit_number(SEVEN[2:3]), 997)

    def test_fit_number(self):
        for _ in range(150):
            frames, cells = drawn_put(DRAW)
            lot, k = drawn_lot(DRAW, frames), plain_k(len(cells))
            free = sum(max(0, k - len(plain_places(lot, column))) for column in range(6))
            self.assertEqual(fit_number(lot), 997 ** free)
        frames = frames_of(9, (1, 1, None, ("put", "a", (1,) * 48), 16), 0)
        self.assertEqual([fit_number(frames[9:10]), fit_number(frames[:7]), fit_number(frames[8:])],
                         [997 ** 42, 997 ** 6, 1])

    def test_told_payloads(self):
        for _ in range(100):
            frames, cells = drawn_put(DRAW)
            lot, k = drawn_lot(DRAW, frames), plain_k(len(cells))
            for index, body in enumerate(frames):
                wanted = []
                for column in range(6):
                    known = plain_places(lot, column)
                    is_told = index in known or len(known) >= k
                    wanted.append(body[14 + column] if is_told else None)
                self.assertEqual(told_payload(lot, index), tuple(wanted))

    def test_every_right_paper_is_taken(self):
        lot = SEVEN[1:]
        for places in itertools.chain.from_iterable(itertools.combinations(range(4), many) for many in range(4)):
            for poly in ((1, 6), (), (1,), (13,), (1, 6, 1)):
                value = ("poly", places, poly)
                right = len(places) == 2 and 0 not in places and poly == (1, 6)
                self.assertIs(is_cell_paper(lot, 0, 1, value), right, value)
                self.assertIs(is_cell_paper(lot, 6, 7, value), right, value)
                self.assertIs(is_cell_paper(lot, 6, 1, value), False)
        self.assertIs(is_cell_paper(lot, 6, 7, ("own",)), True)
        self.assertIs(is_cell_paper(lot, 0, 1, ("own",)), False)
        self.assertIs(is_cell_paper(SEVEN[2:3], 1, 2, ("poly", (1, 2), (2, 995))), True)
        self.assertIs(is_cell_paper(SEVEN[2:3], 0, 1, ("poly", (1, 2), (1, 6))), False)

    def test_values_that_are_no_paper(self):
        lot = SEVEN[1:]
        for value in wrong.ODD + (
            ["own"], ("Own",), ("own", 1), (("own",),), ["poly", (1, 2), (1, 6)], ("poly", [1, 2], (1, 6)),
            ("poly", (1, 2), [1, 6]), ("poly", (2, 1), (1, 6)), ("poly", (True, 2), (1, 6)), ("poly", (1, 2), (True, 6)),
            ("poly", (1, 2), (1, 6), 0), ("poly", (1, 2)), ("poly", (1, 2), None), ("poly", None, (1, 6)),
            ("poly", (1, 2, 3), (1, 6)), ("poly", (1, 2), (1, 6, 0)), ("poly", (1, 1), (1, 6)), (1, (1, 2), (1, 6)),
        ):
            self.assertIs(is_cell_paper(lot, 0, 1, value), False, repr(value)[:60])
            self.assertIs(is_cell_paper(lot, 6, 7, value), False, repr(value)[:60])
        self.assertIs(is_cell_paper(lot, 0, 1, ("poly", (1, 2), (1, 8, 994, 1))), False)
        one = frames_of(9, (3, 1, None, ("put", "c", (1,) * 7), 4), 0)
        for cell in wrong.ODD + (None, True, "1", (1,), [1], 998, -996):
            right = wrong.is_int(cell, 1, 1)
            self.assertIs(is_cell_paper(one, 0, cell, ("own",)), right)
            self.assertIs(is_cell_paper(one, 0, cell, ("poly", (0, 1), (1,))), right)
        for value in wrong.ODD + ([995, 1], (995, True), (995, 1, 0), (995, 0), (0, 1), (), (1,), None,
                                  (995, 1, 1), (994, 1), (10, 990, 1)):
            self.assertIs(is_open_paper(SEVEN[2:3], 0, value), False, repr(value)[:60])
        for value in ((995, 1), (2, 996), (993, 2)):
            self.assertIs(is_open_paper(SEVEN[2:3], 0, value), True)
            self.assertIs(is_open_paper(SEVEN[2:3], 1, value), False)

    def test_is_fitting_and_unlike_cells_take_every_value(self):
        for value in wrong.ODD + (list(CELLS), CELLS[:-1], CELLS + (0,), (True,) + CELLS[1:], (None,) + CELLS[1:],
                                  CELLS[:-1] + (8,)):
            self.assertIs(is_fitting(SEVEN, value), False, repr(value)[:60])
        pair = ((0, 2, 3, 4, 5, 6, 505), CELLS)
        lot = SEVEN[2:3]
        self.assertIs(are_unlike_cells(lot, 0, pair), True)
        for value in wrong.ODD + (list(pair), pair[:1], pair + pair[:1], (list(pair[0]), CELLS), pair[1:] * 2,
                                  (pair[0], None), ((False,) + pair[0][1:], CELLS)):
            self.assertIs(are_unlike_cells(lot, 0, value), False, repr(value)[:60])
        self.assertIs(are_unlike_cells(lot, 1, pair), False)
        self.assertIs(are_unlike_cells(SEVEN, 0, pair), False)

    def test_words_of_other_deeds(self):
        drop = frames_of(9, (1, 2, (1, 1), ("drop", "a"), 2), 4)
        self.assertEqual([told_cells(drop[1:]), fitting_cells(drop), fit_number(drop[:1]), told_payload(drop[:1], 1)],
                         [(), (), 1, (0,) * 6])
        self.assertIs(is_fitting(drop, ()), True)
        for _ in range(30):
            deed, ahead = drawn_deed(DRAW, "patch", 20)
            frames = frames_of(9, (1, 2, (1, 1), deed, 16), ahead)
            self.assertEqual(told_cells(drawn_lot(DRAW, frames[:4]) if not deed[4] else frames[5:9]), deed[4])

    def test_what_is_not_true(self):
        self.assertEqual(told_cells(SEVEN[3:])[0], None)
        self.assertEqual(told_payload(SEVEN[3:], 1)[1:], (0,) * 5)
        self.assertNotIn(None, told_cells(frames_of(9, (1, 1, None, ("put", "a", (1,)), 4), 0)[3:]))
        self.assertEqual(told_cells(SEVEN[2:3]), told_cells(SEVEN[3:]))

    def test_wrong_arguments(self):
        at = (errors.InvalidNumber, wrong.odd_but(lambda value: wrong.is_int(value, 0, 6)) + [7, -1, True])
        index = (errors.InvalidNumber, wrong.odd_but(lambda value: wrong.is_int(value, 0, 3)) + [4, -1, True])
        clash = (errors.Refused, {"reason": ("index", 0)})
        wrong.check_wrong(self, cell_answer, (SEVEN, 6), (LOT, at), ((clash, (TWICE, 6), (0, 1)),))
        wrong.check_wrong(self, told_payload, (SEVEN, 3), (LOT, index), ((clash, (TWICE, 3), (0, 1)),))
        wrong.check_wrong(self, unlike_cells, (SEVEN[3:], 6), (LOT, at), (
            (clash, (TWICE, 6), (0, 1)), ((errors.Refused, {"reason": ("told",)}), (SEVEN, 6), (0, 1))))
        for function, rest in ((is_cell_paper, (1, ("own",))), (is_open_paper, ((),)), (are_unlike_cells, ((),))):
            then = ((clash, (TWICE, 0) + rest, (0, 1)),)
            wrong.check_wrong(self, function, (SEVEN, 0) + rest, (LOT, at) + (None,) * len(rest), then)
        empty = frames_of(9, (1, 2, (1, 1), ("drop", "a"), 2), 4)
        wrong.check_raises(self, (errors.InvalidNumber, {"given": 0}), cell_answer, (empty, 0))
        for function in (told_cells, fitting_cells):
            refused_clash(self, OTHER, function)
        self.assertEqual(fit_number(OTHER), 0)


if __name__ == "__main__":
    unittest.main()
