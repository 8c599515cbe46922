"""The fewest further frames that tell what is wanted, and the fewest whose loss hides a cell."""

import itertools
import random
import unittest

from stillread import errors
from stillread.lots import spread
from stillread.lots.gather import lot_clash, told_cells
from stillread.lots.spread import all_frames, frames_of, with_payload
from stillread.need import least as module
from stillread.need.least import (
    are_further_indices, borne, further_indices, is_least_further, is_least_loss, least_further, least_loss,
)
from stillread.plain.histories import version
from stillread.read.told import Reading
from tests import wrong
from tests.bodies import drawn_length, plain_k
from tests.examples import run_examples
from tests.frames import ARCHIVE, drawn_story, some_frames
from tests.test_checker import HISTORY
from tests.test_constraints import FRAMES as WRONG_FRAMES
from tests.test_histories import STORY, STORY_ROWS
from tests.test_pieces import WRONG_SAVE
from tests.test_told import CLASHING, FRAMES, NAME

EXAMPLES = STORY_ROWS + """
>>> SEVEN = frames_of(9, (3, 1, None, ("put", "c", (1, 2, 3, 4, 5, 6, 7)), 4), 0)
>>> [further_indices(SEVEN[2:3], (1, 2)), len(further_indices(SEVEN[2:3], (0, 6))), are_further_indices(SEVEN[2:3], (0, 6), (3,)), are_further_indices(SEVEN[2:3], (0, 6), (0, 1))]
[(), 1, True, False]
>>> [is_least_further(SEVEN[2:3], (3, 1), "c", ((3, 1, 0),)), least_further(SEVEN[1:3], (3, 1), "c"), least_further(frames_of(9, APART, 3), (2, 1), "b")]
[True, (), None]
>>> [least_loss(STORY, (2, 1), "b", 0), borne(STORY, (2, 1), "b"), borne(STORY, (1, 2), "a"), is_least_loss(STORY, (1, 2), "a", 0, ((1, 2, 0), (1, 2, 1)))]
[((2, 1, 0),), 0, 1, True]
>>> least_further(frames_of(9, APART, 3), (2, 1), "a")
raises Refused(("entry",))
"""
DRAW = random.Random(180)
SEVEN = frames_of(9, (3, 1, None, ("put", "c", (1, 2, 3, 4, 5, 6, 7)), 4), 0)
LIES = (SEVEN[0], with_payload(SEVEN[0], 0, (2, 2, 3, 4, 5, 6)))
CLASH = (errors.Refused, {"reason": ("index", 0)})


def drawn_save_frames(draw, length=None, n=None):
    """All frames of a put with so many new cells."""
    cells = tuple(draw.randrange(997) for _ in range(drawn_length(draw) if length is None else length))
    n = n or draw.randint(plain_k(len(cells)), max(plain_k(len(cells)), 9))
    return frames_of(9, (3, 1, None, ("put", "c", cells), n), 0)


def some_of(draw, things, least=0):
    return tuple(sorted(draw.sample(things, draw.randint(min(least, len(things)), len(things)))))


def tries(things):
    """All ascending tuples of some of the things, shorter ones first."""
    for many in range(len(things) + 1):
        yield from itertools.combinations(things, many)


def plain_least(lot, frames, wanted):
    """All sets of fewest further indices behind which the wanted cells are told, by a try of all of them."""
    there, found = [body[3] for body in lot], []
    for some in tries([index for index in range(len(frames)) if index not in there]):
        if found and len(some) > len(found[0]):
            break
        told = told_cells(tuple(body for body in frames if body[3] in there or body[3] in some))
        if all(told[at] is not None for at in wanted):
            found.append(some)
    return found


class FurtherTest(unittest.TestCase):
    def test_examples(self):
        run_examples(self, EXAMPLES, {**vars(errors), **vars(spread), **vars(module)})

    def test_fewest_by_a_try_of_all_sets(self):
        sizes = {}
        for _ in range(250):
            frames = drawn_save_frames(DRAW)
            lot = some_of(DRAW, frames, 1)
            if not lot:
                continue
            length = lot[0][12]
            wanted = some_of(DRAW, range(length)) if DRAW.random() < 0.5 else tuple(
                sorted(DRAW.sample(range(length), min(length, DRAW.randint(0, 3)))))
            right = plain_least(lot, frames, wanted)
            self.assertIn(further_indices(lot, wanted), right)
            sizes[len(right[0])] = sizes.get(len(right[0]), 0) + 1
            for some in tries([index for index in range(lot[0][4]) if index not in [body[3] for body in lot]]):
                if len(some) > len(right[0]) + 1:
                    break
                self.assertIs(are_further_indices(lot, wanted, some), some in right)
        self.assertTrue({0, 1, 2} <= set(sizes), sizes)

    def test_each_of_the_three_ways_can_be_the_least(self):
        frames = drawn_save_frames(DRAW, 44, 16)
        # Eight rows, the last one filled from its third column on; two bodies.
        lot = (frames[2], frames[4])
        for wanted, many in (((0, 12), 1), ((0, 6), 2), ((6, 7, 8), 1), (tuple(range(44)), 6), ((3, 9, 21, 33), 4),
                             ((3, 9, 21, 33, 39), 5), (tuple(at for at in range(44) if at % 6 >= 2), 5),
                             ((0,) + tuple(range(3, 42, 6)), 5),
                             ((42,), 1), ((15,), 0), ((27, 28, 24), None)):
            if many is None:
                self.check_refused(lot, wanted)
                continue
            told = further_indices(lot, wanted)
            self.assertEqual(len(told), many, wanted)
            self.assertIs(are_further_indices(lot, wanted, told), True)
        self.assertNotIn(7, further_indices(lot, tuple(at for at in range(44) if at % 6 >= 2)))
        # One body behind the rows: a row of a column without filling, and others than the last one.
        for wanted, many in ((tuple(range(3, 42, 6)), 6), ((0,) + tuple(range(3, 42, 6)), 6), (tuple(range(0, 44, 6)), 7),
                             ((0, 6, 12) + tuple(range(5, 42, 6)), 6), ((42,) + tuple(range(3, 42, 6)), 7)):
            wanted = tuple(sorted(wanted))
            told = further_indices(frames[9:10], wanted)
            self.assertEqual([len(told), list(told)], [many, sorted(set(told))])
            self.assertIs(are_further_indices(frames[9:10], wanted, told), True)

    def check_refused(self, lot, wanted):
        wrong.check_raises(self, errors.InvalidOperation, further_indices, (lot, wanted))

    def test_values_that_are_none(self):
        for value in wrong.ODD + ((4,), (1, 0), (True,), (0, 0), [0], (2,), (0, 1), (-1,), ("0",), None, (3, 4)):
            self.assertIs(are_further_indices(SEVEN[2:3], (0, 6), value), repr(value) == "(0,)", repr(value)[:60])
        self.assertEqual([are_further_indices(SEVEN[2:3], (0,), (index,)) for index in range(4)], [True, True, False, True])
        self.assertIs(are_further_indices(SEVEN[2:3], (1,), ()), True)
        self.assertIs(are_further_indices(SEVEN[2:3], (1,), (0,)), False)

    def test_wrong_arguments(self):
        lot = (errors.InvalidBody, list(wrong.ODD) + [list(SEVEN[:2]), SEVEN[1::-1], SEVEN[:1] * 2, SEVEN[:1] + FRAMES[:1]])
        wanted = (errors.InvalidOperation, wrong.odd_but(
            lambda value: value == () or (isinstance(value, tuple) and wrong.is_cells(value) and len(value) < 3 and
                                          list(value) == sorted(set(value)) and value[-1] < 7)) + [
                (7,), (0, 7), (-1, 0), (1, 0), (1, 1), (True,), (0, True), [0, 1]])
        self.assertEqual(lot_clash(tuple(sorted(LIES))), ("index", 0))
        lies = tuple(sorted(LIES))
        then = ((CLASH, (lies, (0, 1)), (0, 1)),)
        wrong.check_wrong(self, further_indices, (SEVEN[:2], (0, 6)), (lot, wanted), then)
        then = ((CLASH, (lies, (0, 1), None), (0, 1)),)
        wrong.check_wrong(self, are_further_indices, (SEVEN[:2], (0, 6), ()), (lot, wanted, None), then)


def plain_further(frames, every, save, name):
    """All tuples of fewest further frames behind which an entry is told, by a try of all sets; `[None]` if none does."""
    there = sorted({body[1:3] for body in frames})
    left = [body for body in every if body[1:3] in there and body not in frames]
    if None in (Reading(frames + tuple(left)).known_entries(save)[name]):
        return [None]
    found = []
    for some in tries(left):
        if found and len(some) > len(found[0]):
            break
        if None not in Reading(frames + some).known_entries(save)[name]:
            found.append(tuple(sorted(body[1:4] for body in some)))
    return found


class LeastFurtherTest(unittest.TestCase):
    def test_fewest_by_a_try_of_all_sets(self):
        sizes = {}
        for _ in range(700):
            story, trees = drawn_story(DRAW, 5, 0.7)
            frames = some_frames(DRAW, story)
            every = all_frames(ARCHIVE, story)
            if len([body for body in every if body not in frames]) > 9 or not frames:
                continue
            reading = Reading(frames)
            save = DRAW.choice(reading.saves)
            for name in reading.known_entries(save):
                right = plain_further(tuple(sorted(set(frames))), every, save, name)
                told = least_further(frames, save, name)
                self.assertIn(told, right)
                key = None if told is None else len(told)
                sizes[key] = sizes.get(key, 0) + 1
                for value in [told, None, ()] + right + list(self.bent(told, every)):
                    self.assertIs(is_least_further(frames, save, name, value), value in right, (value, right))
        self.assertTrue({None, 0, 1, 2} <= set(sizes) and sizes[1] > 4 and sizes[None] > 4, sizes)

    def bent(self, told, every):
        """Other tuples of triples, as many and one more or less."""
        triples = sorted(body[1:4] for body in every)
        for _ in range(6):
            yield tuple(sorted(DRAW.sample(triples, min(len(triples), max(0, len(told or ()) + DRAW.choice((-1, 0, 0, 1)))))))

    def test_several_lots_and_a_piece_below_a_gap(self):
        put = (1, 1, None, ("put", "a", tuple(range(13))), 5)
        patch = (1, 2, (1, 1), ("patch", "a", 6, 0, tuple(range(100, 107))), 4)
        story = (put, patch, (1, 3, (1, 2), ("rename", "a", "b"), 1), (1, 4, (1, 3), ("put", "c", ()), 1))
        every = all_frames(7, story)
        frames = tuple(body for body in every if (body[2], body[3]) in ((1, 3), (2, 2), (3, 0), (4, 0)))
        # Columns 1 to 5 of the put want one frame more, as filling helps them; its column 0 wants two.
        told = least_further(frames, (1, 3), "b")
        self.assertEqual([len(told), [triple[:2] for triple in told]], [3, [(1, 1), (1, 1), (1, 2)]])
        self.assertIs(is_least_further(frames, (1, 4), "b", told), True)
        self.assertIs(is_least_further(frames, (1, 3), "b", told[:2]), False)
        self.assertEqual([least_further(frames, (1, 4), "c"), least_further(frames, (1, 2), "a") == told], [(), True])
        below = tuple(body for body in frames if body[2] != 1)
        self.assertIsNone(least_further(below, (1, 3), "b"))
        self.assertIs(is_least_further(below, (1, 3), "b", None), True)
        self.assertIs(is_least_further(below, (1, 3), "b", ()), False)
        self.assertIs(is_least_further(frames, (1, 3), "b", None), False)
        # An entry that is told at a gap alone, without cells and with some.
        gap = frames_of(7, (1, 2, (1, 1), ("rename", "a", "b"), 1), 0) + frames_of(7, (2, 2, (1, 1), ("drop", "c"), 1), 1)
        self.assertEqual([least_further(gap, (1, 1), "a"), least_further(gap, (1, 1), "c"), least_further(gap, (1, 2), "b"),
                          least_further(gap, (1, 2), "c")], [(), None, (), None])

    def test_values_that_are_none(self):
        for value in wrong.ODD + (
            [(3, 1, 0)], ((3, 1, 2),), ((3, 1, 4),), ((3, 2, 0),), ((1, 1, 0),), ((3, 1, True),), ((3, 1),), ((3, 1, 0, 0),),
            ((3, 1, 0), (3, 1, 1)), (), ([3, 1, 0],), ((True, 1, 0),), ((3, 1, -1),), (None,), ((3, 1, 16),),
        ):
            self.assertIs(is_least_further(SEVEN[2:3], (3, 1), "c", value), False, repr(value)[:60])
        for index in (0, 1, 3):
            self.assertIs(is_least_further(SEVEN[2:3], (3, 1), "c", ((3, 1, index),)), True)

    def test_wrong_arguments(self):
        good = (FRAMES, (1, 2), "a")
        clash, entry = ((errors.Refused, {"reason": (word,)}) for word in ("clash", "entry"))
        then = ((clash, (CLASHING, (3, 1), "a"), (0, 1, 2)), ((errors.UnknownName, {"wanted": (3, 1)}), (FRAMES, (3, 1), "a"), (0, 1, 2)),
                (entry, (FRAMES, (1, 1), "b"), (0, 1, 2)), (entry, (FRAMES, (1, 1), "q"), (0, 1, 2)),
                (entry, (FRAMES, (2, 1), "a"), (0, 1, 2)))
        wrong.check_wrong(self, least_further, good, (WRONG_FRAMES, WRONG_SAVE, NAME), then)
        then = tuple((error, given + (None,), places) for error, given, places in then)
        wrong.check_wrong(self, is_least_further, good + (None,), (WRONG_FRAMES, WRONG_SAVE, NAME, None), then)


def is_told(frames, save, name, at):
    """Whether the cell is told by these frames, the save being named by them."""
    reading = Reading(frames)
    if save not in reading.saves:
        return False
    found = reading.answer(("cell", save, name, at))
    return found is not None and found[0] is not None


def plain_losses(history, save, name, at):
    """All tuples of fewest frames without which a cell is not told, by a try of all sets."""
    every, found = all_frames(ARCHIVE, history), []
    for some in tries(every):
        if found and len(some) > len(found[0]):
            break
        if not is_told(tuple(body for body in every if body not in some), save, name, at):
            found.append(tuple(sorted(body[1:4] for body in some)))
    return found


class LossTest(unittest.TestCase):
    def small_story(self):
        """A story with few frames, its versions, and an entry with cells."""
        while True:
            story, trees = drawn_story(DRAW, 5, 0.3)
            story = tuple(save[:4] + (min(save[4], plain_k(len(save[3][-1]) if save[3][0] in ("put", "patch") else 0) + 1),)
                          for save in story)
            entries = [(save, name) for save in trees for name in trees[save] if trees[save][name]]
            if entries and len(all_frames(ARCHIVE, story)) <= 11:
                return (story, trees) + DRAW.choice(entries)

    def test_fewest_by_a_try_of_all_sets(self):
        sizes, rows = {}, 0
        for _ in range(60):
            story, trees, save, name = self.small_story()
            triples = [body[1:4] for body in all_frames(ARCHIVE, story)]
            for at in sorted({0, len(trees[save][name]) - 1, DRAW.randrange(len(trees[save][name]))}):
                right = plain_losses(story, save, name, at)
                told = least_loss(story, save, name, at)
                self.assertIn(told, right)
                sizes[len(told)] = sizes.get(len(told), 0) + 1
                rows += any(triple[:2] != right[0][0][:2] for some in right for triple in some)
                for value in right + [some for some in itertools.combinations(triples, len(told))][:200] + [(), told[1:], told + told]:
                    self.assertIs(is_least_loss(story, save, name, at, value), value in right, (value, right))
        self.assertTrue({1, 2} <= set(sizes) and rows > 3, (sizes, rows))

    def test_borne_is_one_less_than_the_least_loss_of_all_cells(self):
        for _ in range(60):
            story, trees, save, name = self.small_story()
            losses = [len(least_loss(story, save, name, at)) for at in range(len(trees[save][name]))]
            self.assertEqual(borne(story, save, name), min(losses) - 1)
            every = all_frames(ARCHIVE, story)
            for some in itertools.islice(itertools.combinations(every, min(losses) - 1), 60):
                left = tuple(body for body in every if body not in some)
                self.assertNotIn(None, Reading(left).known_entries(save)[name])

    def test_losses_that_are_as_many(self):
        # The origin has k = 2 and n = 4, a save behind it 3 frames, another one 4.
        story = ((1, 1, None, ("put", "a", tuple(range(9))), 4), (1, 2, (1, 1), ("put", "b", ()), 3),
                 (1, 3, (1, 2), ("drop", "b"), 4))
        for at, own, filled in ((0, 0, None), (2, 0, None), (3, 0, 1), (5, 0, 1), (6, 1, None), (8, 1, None)):
            right = [tuple((1, 2, index) for index in range(3))]
            for some in itertools.combinations(range(4), 3):
                if own in some and filled not in some:
                    right.append(tuple((1, 1, index) for index in some))
            for save, some in itertools.product(((1, 1), (1, 2), (1, 3)), itertools.combinations(range(4), 3)):
                value = tuple(save + (index,) for index in some)
                self.assertIs(is_least_loss(story, (1, 3), "a", at, value), value in right, (at, value))
                wanted = value in right and value[0][:2] == (1, 1)
                self.assertIs(is_least_loss(story, (1, 1), "a", at, value), wanted)
            self.assertIn(least_loss(story, (1, 3), "a", at), right)
            mixed = ((1, 1, 0), (1, 2, 0), (1, 2, 1))
            self.assertIs(is_least_loss(story, (1, 3), "a", at, mixed), False)
        self.assertEqual([borne(story, (1, 3), "a"), borne(story, (1, 1), "a")], [2, 2])

    def test_n_just_k_and_above(self):
        for n, many in ((3, 1), (4, 2), (16, 14)):
            story = ((1, 1, None, ("put", "a", tuple(range(18))), n), (1, 2, (1, 1), ("drop", "a"), 1))
            told = least_loss(story, (1, 1), "a", 17)
            self.assertEqual([len(told), borne(story, (1, 1), "a")], [many, many - 1])
            self.assertIn((1, 1, 2), told)
        story = ((1, 1, None, ("put", "a", (1,)), 5), (1, 2, (1, 1), ("put", "b", ()), 5))
        self.assertEqual([len(least_loss(story, (1, 2), "a", 0)), borne(story, (1, 2), "a")], [5, 4])
        for save in ((1, 1), (1, 2)):
            value = tuple(save + (index,) for index in range(5))
            self.assertIs(is_least_loss(story, (1, 2), "a", 0, value), True)

    def test_values_that_are_none(self):
        right = ((1, 1, 0), (1, 1, 1))
        self.assertIs(is_least_loss(STORY, (1, 1), "a", 2, right), True)
        for value in wrong.ODD + (list(right), right[::-1], right[:1], right + ((1, 2, 0),), ((1, 1, 0), (1, 1, True)),
                                  ((1, 2, 0), (1, 2, 1)), ((1, 1, 0), (1, 2, 0)), ((1, 1), (1, 1)), ((2, 1, 0),), (None, None),
                                  ((1, 1, 0), (1, 1, 2)), ((1, 1, 0), (1, 1, 0))):
            self.assertIs(is_least_loss(STORY, (1, 1), "a", 2, value), False, repr(value)[:60])
        self.assertIs(is_least_loss(STORY, (1, 2), "a", 3, right), True)
        self.assertIs(is_least_loss(STORY, (1, 2), "a", 3, ((1, 2, 0), (1, 2, 1))), True)
        self.assertIs(is_least_loss(STORY, (1, 2), "a", 1, right), False)

    def test_what_is_not_true(self):
        # With one body of eight the fewest further frames are fewer than seven, as few rows are wanted.
        frames = drawn_save_frames(DRAW, 48, 16)
        self.assertEqual(len(further_indices(frames[9:10], (0, 1, 2))), 1)
        one = ((1, 1, None, ("put", "a", (1,)), 9), (1, 2, (1, 1), ("put", "b", ()), 1))
        other = ((1, 1, None, ("put", "a", (1,)), 16), (1, 2, (1, 1), ("put", "b", ()), 1))
        self.assertEqual(borne(one, (1, 2), "a"), borne(other, (1, 2), "a"))
        story = ((1, 1, None, ("put", "a", (1,) * 7), 4), (1, 2, (1, 1), ("drop", "a"), 1))
        self.assertEqual(len(least_loss(story, (1, 1), "a", 0)), 3)

    def test_wrong_arguments(self):
        at = (errors.InvalidNumber, wrong.odd_but(lambda value: wrong.is_int(value, 0, 995)) + [True, 996, -1])
        unknown, gone = ((errors.UnknownName, {"wanted": told}) for told in ((3, 1), "b"))
        beyond = (errors.InvalidNumber, {"given": 4})
        then = ((unknown, (STORY, (3, 1), "a", 0), (0, 1, 2, 3)), (unknown, (STORY, (3, 1), "b", 995), (0, 1, 2, 3)),
                (gone, (STORY, (1, 2), "b", 4), (0, 1, 2, 3)), (beyond, (STORY, (1, 2), "a", 4), (0, 1, 2, 3)))
        wrong.check_wrong(self, least_loss, (STORY, (1, 2), "a", 3), (HISTORY, WRONG_SAVE, NAME, at), then)
        then = tuple((error, given + (None,), places) for error, given, places in then)
        wrong.check_wrong(self, is_least_loss, (STORY, (1, 2), "a", 3, None), (HISTORY, WRONG_SAVE, NAME, at, None), then)
        empty = STORY + ((1, 3, (1, 2), ("put", "q", ()), 1),)
        then = ((unknown, (STORY, (3, 1), "b"), (0, 1, 2)), (gone, (STORY, (1, 2), "b"), (0, 1, 2)),
                ((errors.Refused, {"reason": ("empty",)}), (empty, (1, 3), "q"), (0, 1, 2)))
        wrong.check_wrong(self, borne, (STORY, (1, 2), "a"), (HISTORY, WRONG_SAVE, NAME), then)
        self.assertEqual(version(empty, (1, 3))["q"], ())
        wrong.check_raises(self, (errors.InvalidNumber, {"given": 0}), least_loss, (empty, (1, 3), "q", 0))


if __name__ == "__main__":
    unittest.main()
