"""Orders of frames that bear the loss of stretches."""

import itertools
import random
import unittest

from stillread import errors
from stillread.lots.spread import all_frames, frames_of, with_payload
from stillread.need import spread as module
from stillread.need.spread import (
    borne, cut_signs, greatest_window, is_spread_paper, spread_answer, spread_text, spreading, strands, weak_stretch,
)
from stillread.read.told import Reading
from stillread.text.frames import bodies_in, found_frames, made_frame
from tests import wrong
from tests.bodies import plain_k
from tests.examples import run_examples
from tests.frames import ARCHIVE, drawn_story
from tests.test_constraints import FRAMES as WRONG_FRAMES
from tests.test_histories import FIRST, NEXT, STORY
from tests.test_told import FRAMES

EXAMPLES = """
>>> LOTS = ((4, 2), (3, 2))
>>> [strands(LOTS), greatest_window(LOTS), borne(LOTS, (0, 1, 0, 1, 0, 1, 0)), weak_stretch(LOTS, (0, 0, 0, 0, 1, 1, 1))]
[((0, 0, 2), (0, 1, 2), (1, 0, 3)), 3, 2, (4, 6, 1)]
>>> [borne(LOTS, spreading(LOTS)), is_spread_paper(("borne", LOTS, 3), (1, 0, 0, 1, 0, 0, 1)), spread_answer(LOTS, 4)]
[3, True, (('never borne', ((4, 2), (3, 2)), 4), ('strands', ((1, 0),)))]
>>> [greatest_window(((2, 2), (9, 1))), spread_answer(((2, 2), (9, 1)), 1)[1], cut_signs(3), cut_signs(0)]
[0, ('bare', 0), 245, 0]
>>> greatest_window(((3, 4),))
raises InvalidOperation
"""
DRAW = random.Random(190)
TWO = ((4, 2), (3, 2))


def is_lots(value):
    if not isinstance(value, tuple) or not 1 <= len(value) <= 12:
        return False
    return all(isinstance(lot, tuple) and len(lot) == 2 and wrong.is_int(lot[0], 1, 16) and wrong.is_int(lot[1], 1, lot[0])
               for lot in value)


LOTS = (errors.InvalidOperation, wrong.odd_but(is_lots) + [
    ((3, 4),), ((0, 0),), ((3, 0),), ((17, 1),), ((3, True),), ((True, 1),), ((3,),), ((3, 1, 1),), ([3, 1],), [(3, 1)],
    ((3, 1),) * 13, ((3, 1), None), (3, 1), ((-1, -1),), ((16, 17),), ((10 ** 60, 1),)])


def drawn_lots(draw, many, most=16):
    lots = []
    for _ in range(draw.randint(1, many)):
        n = draw.randint(1, most)
        lots.append((n, draw.randint(1, n) if draw.random() < 0.4 else max(1, n - draw.randint(1, 3))))
    return tuple(lots)


def drawn_order(draw, lots):
    order = [index for index, (n, k) in enumerate(lots) for _ in range(n)]
    draw.shuffle(order)
    return tuple(order)


def plain_bears(lots, order, many):
    """Whether each loss of a stretch of so many places leaves each lot enough."""
    for begin in range(len(order) - many + 1):
        left = order[:begin] + order[begin + many:]
        if any(left.count(index) < k for index, (n, k) in enumerate(lots)):
            return False
    return True


def plain_weak(lots, order):
    """The shortest stretch, the first one of these, that leaves a lot too few, and the least such lot."""
    for many in range(1, len(order) + 1):
        for begin in range(len(order) - many + 1):
            left = order[:begin] + order[begin + many:]
            for index, (n, k) in enumerate(lots):
                if left.count(index) < k:
                    return (begin, begin + many, index)
    return None


def all_orders(lots):
    """All orders of few frames."""
    def go_on(left):
        if not any(left):
            yield ()
        for index, many in enumerate(left):
            if many:
                for rest in go_on(left[:index] + (many - 1,) + left[index + 1:]):
                    yield (index,) + rest
    yield from go_on(tuple(n for n, k in lots))


class OrdersTest(unittest.TestCase):
    def test_examples(self):
        run_examples(self, EXAMPLES, {**vars(errors), **vars(module)})

    def test_strands_are_the_frames_in_turn(self):
        for n in range(1, 17):
            for k in range(1, n + 1):
                t = n - k
                wanted = tuple((0, j, len(range(j, n, t))) for j in range(t)) if t else ()
                self.assertEqual(strands(((n, k),)), wanted)
        for _ in range(50):
            lots = drawn_lots(DRAW, 12)
            wanted = [(index, j, length) for index, lot in enumerate(lots) for _, j, length in strands((lot,))]
            self.assertEqual(list(strands(lots)), wanted)

    def test_what_orders_bear_and_the_stretch_that_they_do_not(self):
        for _ in range(300):
            lots = drawn_lots(DRAW, 4, 6)
            order = drawn_order(DRAW, lots)
            many = max([many for many in range(len(order) + 1) if plain_bears(lots, order, many)])
            self.assertEqual(borne(lots, order), many)
            self.assertEqual(weak_stretch(lots, order), plain_weak(lots, order))
            begin, end, lot = weak_stretch(lots, order)
            self.assertEqual(end - begin, many + 1)
            self.assertFalse(plain_bears(lots, order, many + 1))

    def test_few_frames_by_a_try_of_all_orders(self):
        fives = [(n, k) for n in range(1, 6) for k in range(1, n + 1)]
        threes = [lot for lot in fives if lot[0] <= 3]
        for lots in itertools.product(fives, threes):
            self.check_greatest(lots)
        for _ in range(12):
            lots = drawn_lots(DRAW, 4, 3)
            if sum(n for n, k in lots) <= 8:
                self.check_greatest(lots)
        self.check_greatest(((7, 5),))

    def check_greatest(self, lots):
        best = max(borne(lots, order) for order in all_orders(lots))
        self.assertEqual(greatest_window(lots), best, lots)
        self.assertEqual(borne(lots, spreading(lots)), best)

    def test_the_greatest_window_is_borne(self):
        for _ in range(1500):
            lots = drawn_lots(DRAW, 12)
            order = spreading(lots)
            self.assertEqual(sorted(order), [index for index, (n, k) in enumerate(lots) for _ in range(n)])
            self.assertEqual(borne(lots, order), greatest_window(lots))

    def test_just_one_of_two_opposite_claims_has_a_paper(self):
        for _ in range(150):
            lots = drawn_lots(DRAW, 5, 8)
            for many in range(1, sum(n for n, k in lots) + 1):
                claim, paper = spread_answer(lots, many)
                self.assertEqual(claim, ("borne" if many <= greatest_window(lots) else "never borne", lots, many))
                self.assertIs(is_spread_paper(claim, paper), True)
                other = ("never borne" if claim[0] == "borne" else "borne",) + claim[1:]
                for value in (paper, spreading(lots), drawn_order(DRAW, lots), *self.all_papers(lots)):
                    self.assertIs(is_spread_paper(other, value), False, (other, value))
                    self.assertIs(is_spread_paper(claim, value), self.plain_paper(claim, value), (claim, value))

    def all_papers(self, lots):
        """Papers that could be right for the opposite claim."""
        for index in range(-1, len(lots) + 1):
            yield ("bare", index)
        rows = [row[:2] for row in strands(lots)]
        for _ in range(6):
            yield ("strands", tuple(sorted(DRAW.sample(rows, DRAW.randint(0, len(rows))))))
        for length in range(1, 17):
            yield ("strands", tuple(row[:2] for row in strands(lots) if row[2] == length))

    def plain_paper(self, claim, value):
        word, lots, many = claim
        if word == "borne":
            return sorted(value) == sorted(spreading(lots)) and plain_bears(lots, value, many) if value[0] not in (
                "bare", "strands") else False
        if value[0] == "bare":
            return 0 <= value[1] < len(lots) and lots[value[1]][0] == lots[value[1]][1]
        if value[0] != "strands" or not value[1]:
            return False
        lengths = {row[:2]: row[2] for row in strands(lots)}
        told = {lengths[row] for row in value[1]}
        return len(told) == 1 and min(told) >= 2 and (
            (min(told) - 1) * many + len(value[1]) > sum(n for n, k in lots))

    def test_shorter_strands_than_the_longest_can_be_a_paper(self):
        lots = ((3, 2), (4, 2), (4, 2))
        self.assertEqual([greatest_window(lots), [row[2] for row in strands(lots)]], [5, [3, 2, 2, 2, 2]])
        claim = ("never borne", lots, 8)
        for rows, right in ((((0, 0),), True), (((1, 0), (1, 1), (2, 0), (2, 1)), True), (((1, 0), (1, 1), (2, 0)), False),
                            (((0, 0), (1, 0)), False), (((1, 1), (1, 0), (2, 0), (2, 1)), False), ((), False),
                            (((1, 0), (1, 0), (1, 1), (2, 0), (2, 1)), False)):
            self.assertIs(is_spread_paper(claim, ("strands", rows)), right, rows)

    def test_one_lot_and_twelve(self):
        self.assertEqual([greatest_window(((16, 1),)), greatest_window(((16, 15),)), greatest_window(((16, 8),))], [15, 1, 8])
        self.assertEqual([greatest_window(((1, 1),)), spreading(((1, 1),)), borne(((1, 1),), (0,))], [0, (0,), 0])
        twelve = ((16, 1),) * 12
        self.assertEqual([greatest_window(twelve), borne(twelve, spreading(twelve))], [180, 180])
        self.assertEqual(greatest_window(((16, 8),) * 12), 96)
        self.assertEqual(greatest_window(((16, 15),) * 12), 12)
        self.assertEqual([greatest_window(((16, 15),) * 11 + ((16, 16),)), weak_stretch(((2, 2), (3, 1)), (1, 1, 0, 1, 0))],
                         [0, (2, 3, 0)])
        for word in ("borne", "never borne"):
            for many in (1, 192):
                self.assertIn(is_spread_paper((word, twelve, many), None), (False,))

    def test_orders_that_bear_nothing_and_most(self):
        lots = ((2, 1), (2, 1), (2, 1))
        self.assertEqual([borne(lots, (0, 0, 1, 1, 2, 2)), borne(lots, (0, 1, 2, 0, 1, 2)), greatest_window(lots)], [1, 3, 3])
        self.assertEqual([borne(((3, 3), (4, 1)), (0, 1, 0, 1, 1, 0, 1)), weak_stretch(((3, 3), (4, 1)), (1, 1, 0, 1, 1, 0, 0))],
                         [0, (2, 3, 0)])
        self.assertEqual(spread_answer(lots, 1)[0][0], "borne")
        self.assertEqual(spread_answer(lots, 6), (("never borne", lots, 6), ("strands", ((0, 0), (1, 0), (2, 0)))))

    def test_signs(self):
        for many in range(0, 193):
            self.assertEqual(cut_signs(many), 122 * many - 121 if many else 0)
        for many in (1, 2, 5):
            row = 122 * 8
            for signs, right in ((cut_signs(many), True), (cut_signs(many) + 1, False)):
                touched = [(begin + signs - 1) // 122 - begin // 122 + 1 for begin in range(row - signs + 1)]
                self.assertIs(max(touched) <= many, right)

    def test_values_that_are_no_paper(self):
        right = (1, 0, 0, 1, 0, 0, 1)
        for claim in (("borne", TWO, 3), ("never borne", TWO, 4)):
            for value in wrong.ODD + (
                list(right), right[:-1], right + (0,), (1, 0, 0, 1, 0, 1, 1), (True, 0, 0, 1, 0, 0, 1), (1, 0, 0, 2, 0, 0, 1),
                (1, 0, 0, 1, 0, 0, -1), ("bare", 0), ("bare", 2), ("bare",), ("bare", True), ("bare", None), ("bare", 0, 0),
                ("strands",), ("strands", ()), ("strands", None), ("strands", [(1, 0)]), ("strands", ((1, 1),)),
                ("strands", ((2, 0),)), ("strands", ((1, False),)), ("strands", ((True, 0),)), ("strands", ((1, 0, 3),)),
                ("strands", ((1, 0),), ()), ["strands", ((1, 0),)], ("strands", ([1, 0],)), ("strands", ((1, -1),)),
                (("strands",), ((1, 0),)), ("Strands", ((1, 0),)), Reading(()), ("strands", (None,)), ("strands", (1, 0)),
                "1001001", (None,) * 7,
            ):
                self.assertIs(is_spread_paper(claim, value), False, repr(value)[:60])
        self.assertIs(is_spread_paper(("never borne", TWO, 4), ("strands", ((1, 0),))), True)
        bare = ("never borne", ((2, 2), (5, 5), (9, 1)), 16)
        self.assertEqual([is_spread_paper(bare, ("bare", index)) for index in (0, 1, 2, True, False)],
                         [True, True, False, False, False])

    def test_what_is_not_true(self):
        lots = ((4, 1), (2, 1), (2, 1))
        turns = (0, 1, 2, 0, 1, 2, 0, 0)
        self.assertLess(borne(lots, turns), greatest_window(lots))
        self.assertEqual([greatest_window(((3, 2),)), greatest_window(((3, 2), (3, 2))), greatest_window(((3, 2), (9, 8)))],
                         [1, 2, 1])
        self.assertEqual([greatest_window(((2, 1),)), greatest_window(((16, 1),))], [1, 15])
        self.assertEqual(greatest_window(((2, 1), (16, 1))), 16)

    def test_wrong_arguments(self):
        for function in (strands, greatest_window, spreading):
            wrong.check_wrong(self, function, (TWO,), (LOTS,))
        order = (errors.InvalidOperation, list(wrong.ODD) + [
            (0, 0, 0, 1, 1, 1, 1), (0,) * 7, (0, 0, 0, 0, 1, 1), (0, 0, 0, 0, 1, 1, 1, 1), [0, 0, 0, 0, 1, 1, 1],
            (0, 0, 0, 0, 1, 1, 2), (0, 0, 0, 0, 1, 1, True), (0, 0, 0, False, 1, 1, 1), (-1, 0, 0, 0, 1, 1, 1)])
        for function in (borne, weak_stretch):
            wrong.check_wrong(self, function, (TWO, (0, 1, 0, 1, 0, 1, 0)), (LOTS, order))
        many = (errors.InvalidNumber, wrong.odd_but(lambda value: wrong.is_int(value, 1, 7)) + [0, 8, True])
        wrong.check_wrong(self, spread_answer, (TWO, 7), (LOTS, many))
        spread = (errors.InvalidOperation, list(wrong.ODD) + [
            ("borne", TWO), ("borne", TWO, 0), ("borne", TWO, 8), ("borne", TWO, True), ("never", TWO, 1), ["borne", TWO, 1],
            ("borne", TWO, 1, 1), (("borne",), TWO, 1), ("never borne", TWO, -1), ("never borne", TWO, None)] + [
            ("borne", lots, 1) for lots in LOTS[1]])
        wrong.check_wrong(self, is_spread_paper, (("borne", TWO, 7), None), (spread, None))
        signs = (errors.InvalidNumber, wrong.odd_but(lambda value: wrong.is_int(value, 0, 192)) + [193, -1, True])
        wrong.check_wrong(self, cut_signs, (192,), (signs,))


def keeps_enough(text, lots):
    """Whether k frames of each save stand in a text."""
    there = bodies_in(text)
    return all(len([body for body in there if body[1:3] == save]) >= k for save, (n, k) in lots.items())


class TextsTest(unittest.TestCase):
    def drawn_lots(self, draw):
        """Frames with k or more of each save, and the dict of (number, k) by their saves."""
        story, trees = drawn_story(draw, 4, 0.4)
        frames, lots, spare = [], {}, draw.choice((0, 1, 1, 1))
        for save in story:
            k = plain_k(len(save[3][-1]) if save[3][0] in ("put", "patch") else 0)
            own = frames_of(ARCHIVE, save[:4] + (k + 3,), self.ahead(trees, save))
            some = draw.sample(own, draw.randint(k + spare, len(own)))
            frames.extend(some)
            lots[save[:2]] = (len(some), k)
        draw.shuffle(frames)
        return tuple(frames + frames[:2]), {save: lots[save] for save in sorted(lots)}

    def ahead(self, trees, save):
        """The length that the entry of a save with a base has ahead of its deed."""
        return 0 if save[3][0] == "put" else len(trees[save[2]][save[3][1]])

    def test_texts_that_bear_cuts(self):
        best = 0
        for _ in range(60):
            frames, lots = self.drawn_lots(DRAW)
            text = spread_text(frames)
            self.assertEqual(bodies_in(text), tuple(sorted(set(frames))))
            self.assertEqual(len(text), 122 * len(set(frames)))
            if not lots:
                self.assertEqual(text, "")
                continue
            told = tuple(lots.values())
            order = tuple(sorted(lots).index(body[1:3]) for place, body in found_frames(text))
            many = greatest_window(told)
            self.assertEqual(borne(told, order), many)
            best = max(best, many)
            signs = cut_signs(many)
            for begin in range(0, len(text) - signs + 1, 61 if DRAW.random() < 0.9 else 1):
                self.assertTrue(keeps_enough(text[:begin] + text[begin + signs:], lots), (begin, signs))
            # One sign more can touch one frame more: all signs of the shortest stretch that is not borne.
            begin, end, lot = weak_stretch(told, order)
            cut = 122 * begin + 121 if many else 122 * begin
            self.assertFalse(keeps_enough(text[:cut] + text[cut + signs + 1:], lots))
        self.assertGreater(best, 2)

    def test_edges(self):
        self.assertEqual(spread_text(()), "")
        one = frames_of(7, FIRST, 0)
        self.assertEqual(spread_text(one[1:]), made_frame(one[1]))
        story = tuple((1, number, None, ("put", "a", (1,) * 7), 16) for number in range(1, 13))
        text = spread_text(all_frames(7, story))
        self.assertEqual(len(bodies_in(text)), 192)
        more = all_frames(7, story + ((2, 1, None, ("put", "a", ()), 1),))
        wrong.check_raises(self, (errors.TooMany, {"most": 12}), spread_text, (more,))
        # Frames that clash otherwise are no hindrance.
        apart = one + frames_of(7, (2, 1, (1, 1), ("drop", "a"), 1), 9)
        self.assertEqual(bodies_in(spread_text(apart)), tuple(sorted(apart)))

    def test_wrong_arguments(self):
        seven = frames_of(7, (3, 1, None, ("put", "c", tuple(range(7))), 4), 0)
        twin = with_payload(FRAMES[0], 0, (8, 8, 0, 0, 0, 0))
        marks = frames_of(7, NEXT[:3] + (("drop", "a"), 2), 3)
        few = (errors.Refused, {"reason": ("few", (3, 1))})
        both = frames_of(7, (2, 9, None, ("put", "c", tuple(range(7))), 4), 0)[:1]
        many = tuple((4, number, None, ("put", "a", ()), 1) for number in range(1, 13))
        then = ((errors.InvalidOperation, (FRAMES + (twin,),), ()), (errors.InvalidOperation, (FRAMES + marks[:1],), ()),
                (errors.InvalidOperation, (FRAMES + marks[1:],), ()), (few, (FRAMES + seven[:1],), ()),
                ((errors.Refused, {"reason": ("few", (2, 9))}), (seven[3:] + both,), ()),
                ((errors.TooMany, {"most": 12}), (all_frames(7, many) + seven[:1],), ()),
                (errors.InvalidOperation, (all_frames(7, many) + seven[:1] + FRAMES + (twin,),), ()))
        wrong.check_wrong(self, spread_text, (FRAMES,), (WRONG_FRAMES,), then)
        self.assertEqual(len(bodies_in(spread_text(all_frames(7, STORY)))), 5)


if __name__ == "__main__":
    unittest.main()
