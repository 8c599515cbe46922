"""Fillings, the histories that they are, and histories with unlike answers."""

import itertools
import random
import unittest

from stillread import errors
from stillread.lots import spread
from stillread.lots.spread import all_frames, frames_of
from stillread.paper.checker import answer_in, has_frames, is_unlike, takes
from stillread.plain import histories
from stillread.plain.histories import is_history, version
from stillread.read import unlike as module
from stillread.read.constraints import gaps, said, sketch_of
from stillread.read.told import Reading, answer_of
from stillread.read.unlike import (
    filled, filling_of, free_numbers, is_filling, some_filling, unlike_histories, version_by,
)
from tests import wrong
from tests.bodies import plain_k
from tests.examples import run_examples
from tests.frames import ARCHIVE, drawn_story, history_for, plain_column, plain_sights, some_frames
from tests.papers import plain_named
from tests.sketches import NAMES
from tests.test_checker import HISTORY, QUESTION
from tests.test_constraints import FRAMES as WRONG_FRAMES
from tests.test_histories import FIRST, STORY, STORY_ROWS
from tests.test_pieces import WRONG_SAVE
from tests.test_told import CLASH, CLASHING, FRAMES, UNKNOWN, all_questions, drawn_frames

EXAMPLES = STORY_ROWS + """
>>> FRAMES = frames_of(7, NEXT, 3) + frames_of(7, APART, 3)
>>> [free_numbers(FRAMES), is_filling(FRAMES, ({(1, 1): {"a": (0, 0, 0)}}, {})), is_filling(FRAMES, ({(1, 1): {"a": (0, 0, 0), "b": ()}}, {}))]
[{}, True, False]
>>> [filling_of(FRAMES, STORY), version_by(FRAMES, ({(1, 1): {"a": (1, 2, 3), "c": ()}}, {}), (2, 1))]
[({(1, 1): {'a': (5, 6, 7)}}, {}), {'b': (1, 2, 3), 'c': ()}]
>>> LONG = (1, 1, None, ("put", "a", (1, 2, 3, 4, 5, 6, 7)), 3)
>>> [free_numbers(frames_of(7, LONG, 0)[:1]), filling_of(frames_of(7, LONG, 0)[:1], (LONG,)), unlike_histories(frames_of(7, LONG, 0)[:1], ("cell", (1, 1), "a", 0))]
[{((1, 1), 0): 1}, ({}, {((1, 1), 0): (6,)}), None]
>>> ONE, OTHER = unlike_histories(FRAMES, ("there", (2, 1), "c"))
>>> sorted([("c" in version(ONE, (2, 1))), ("c" in version(OTHER, (2, 1)))])
[False, True]
>>> unlike_histories(FRAMES, ("there", (3, 1), "a"))
raises UnknownName((3, 1))
"""
DRAW = random.Random(150)
RIGHT = ({(1, 1): {"a": (1, 2, 3)}}, {})
LONG = (1, 2, (1, 1), ("put", "a", tuple(range(20))), 9)
# One save with a gap below, of whose four rows one frame is there.
PARTLY = frames_of(7, LONG, 0)[5:6]


def named_tree(many, cells=()):
    """A tree with so many entries, each with these cells."""
    names = itertools.product("abcdefghijklmnopqrstuvwxyz", repeat=4)
    return {"".join(letters): cells for letters in itertools.islice(names, many)}


def drawn_tree(draw, asks):
    """A tree that fits what is said of a gap."""
    tree = {name: tuple(draw.randrange(997) for _ in range(length)) for name, length in asks.items() if length is not None}
    for name in draw.sample(NAMES + ("zzzz",), draw.randint(0, 3)):
        if name not in asks:
            tree[name] = tuple(draw.randrange(997) for _ in range(draw.choice((0, 1, 47, 48, 49, 100))))
    return {name: tree[name] for name in draw.sample(sorted(tree), len(tree))}


def drawn_filling(draw, frames):
    """Any filling of some frames."""
    sketch = sketch_of(frames)
    trees = {gap: drawn_tree(draw, said(sketch, gap)) for gap in gaps(sketch)}
    numbers = {key: tuple(draw.choice((0, draw.randrange(997))) for _ in range(many))
               for key, many in free_numbers(frames).items()}
    return trees, numbers


def plain_puts(tree):
    return sum(max(1, -(-len(cells) // 48)) for cells in tree.values())


class FillingsTest(unittest.TestCase):
    def test_examples(self):
        run_examples(self, EXAMPLES, {**vars(errors), **vars(histories), **vars(spread), **vars(module)})

    def test_free_numbers(self):
        counted = 0
        for _ in range(80):
            story, trees = drawn_story(DRAW, 8, 0.6)
            frames = some_frames(DRAW, story)
            wanted = {}
            for save, sight in sorted(plain_sights(frames).items()):
                for column in range(6):
                    lacking = plain_k(sight[2][5]) - len(plain_column(sight, column))
                    if lacking > 0:
                        wanted[(save, column)] = lacking
            counted += len(wanted)
            self.assertEqual(list(free_numbers(frames).items()), list(wanted.items()))
        self.assertGreater(counted, 30)
        self.assertEqual(free_numbers(()), {})

    def test_free_numbers_of_each_column(self):
        # 20 new cells: four rows, the last one filled from its third column on.
        frames = frames_of(7, LONG, 0)
        self.assertEqual(free_numbers(frames[5:6]), {((1, 2), column): 3 if column < 2 else 2 for column in range(6)})
        self.assertEqual(free_numbers(frames[3:4]), {((1, 2), column): 3 for column in range(6)})
        self.assertEqual(free_numbers(frames[:2] + frames[6:7]), {((1, 2), column): 1 for column in range(2)})
        self.assertEqual(free_numbers(frames[5:9]), {})
        for column, many in itertools.product(range(6), range(1, 4)):
            one, other = (some_filling(frames[5:6])[1] for _ in range(2))
            key = ((1, 2), column)
            if many <= len(other[key]):
                other[key] = other[key][:many - 1] + (7,) + other[key][many:]
                rows = [filled(frames[5:6], ({(1, 1): {}}, told))[-1][3][2] for told in (one, other)]
                self.assertEqual({at % 6 for at in range(20) if rows[0][at] != rows[1][at]}, {column})

    def test_every_filling_is_a_history_and_each_history_has_one(self):
        for _ in range(120):
            story, trees, frames = drawn_frames(DRAW)
            filling = drawn_filling(DRAW, frames)
            self.assertIs(is_filling(frames, filling), True)
            history = filled(frames, filling)
            self.assertIs(is_history(history), True)
            self.assertTrue(set(frames) <= set(all_frames(ARCHIVE, history)))
            self.assertEqual(filling_of(frames, history), filling)
            named = plain_named(plain_sights(frames))
            told = histories.versions(history)
            for save in named:
                self.assertEqual(repr(version_by(frames, filling, save)), repr(told[save]))
            self.check_beginning(frames, filling, history)

    def check_beginning(self, frames, filling, history):
        """Fresh hands put the trees of the gaps there, ahead of all named saves."""
        named = plain_named(plain_sights(frames))
        hands = {save[0] for save in named}
        ahead = [save for save in history if save[0] not in hands]
        self.assertEqual(list(history[:len(ahead)]), ahead)
        self.assertEqual(sorted(save[:2] for save in history[len(ahead):]), named)
        self.assertEqual(len(ahead), sum(max(1, plain_puts(tree) - 1 if tree else 1) if plain_puts(tree) != 1 else 0
                                         for tree in filling[0].values()))

    def test_fillings_of_histories_that_have_the_frames(self):
        for _ in range(80):
            story, trees, frames = drawn_frames(DRAW)
            filling = filling_of(frames, story)
            self.assertIs(is_filling(frames, filling), True)
            self.assertEqual(list(filling[0]), list(gaps(sketch_of(frames))))
            self.assertEqual(filling[0], {gap: trees[gap] for gap in filling[0]})
            self.assertEqual(list(filling[1]), list(free_numbers(frames)))
            again = filled(frames, filling)
            for save in plain_named(plain_sights(frames)):
                self.assertEqual(version(again, save), trees[save])
                self.assertEqual(version_by(frames, filling, save), trees[save])
            other = history_for(DRAW, frames, sketch_of(frames), drawn_filling(DRAW, frames)[0])
            self.assertIs(has_frames(other, frames), True)
            self.assertEqual(filling_of(frames, filled(frames, filling_of(frames, other))), filling_of(frames, other))
            self.assertEqual([version_by(frames, filling_of(frames, other), save) for save in plain_named(plain_sights(frames))],
                             [version(other, save) for save in plain_named(plain_sights(frames))])

    def test_unlike_fillings_are_unlike_histories(self):
        for _ in range(60):
            story, trees, frames = drawn_frames(DRAW)
            one, other = drawn_filling(DRAW, frames), drawn_filling(DRAW, frames)
            told = [[version_by(frames, filling, save) for save in plain_named(plain_sights(frames))] for filling in (one, other)]
            cells = [[save[3] for save in filled(frames, filling) if save[:2] in plain_sights(frames)]
                     for filling in (one, other)]
            self.assertEqual(one == other, told[0] == told[1] and cells[0] == cells[1])

    def test_fillings_that_are_lent(self):
        for _ in range(60):
            story, trees, frames = drawn_frames(DRAW)
            filling = some_filling(frames)
            self.assertIs(is_filling(frames, filling), True)
            self.assertEqual(filling_of(frames, filled(frames, filling)), filling)
        self.assertEqual([some_filling(()), filled((), ({}, {})), is_filling((), ({}, {}))], [({}, {}), (), True])
        # As many long entries below as frames can tell.
        frames = ()
        for number in range(1, 492):
            frames += frames_of(7, (1, number, (number + 1, 7), ("drop", "a"), 1), 996)
        history = filled(frames, some_filling(frames))
        self.assertEqual(len(history), 491 * 21 + 491)
        self.assertIs(has_frames(history, frames), True)

    def test_trees_that_fit_by_all_but_one_entry(self):
        frames = FRAMES + frames_of(7, (3, 1, (1, 1), ("drop", "z"), 1), 0)
        for tree, right in (
            ({"a": (0, 0, 0), "z": ()}, True), ({"a": (0, 0, 0), "z": (), "q": (9,)}, True), ({"a": (0, 0, 0)}, False),
            ({"a": (0, 0), "z": ()}, False), ({"a": (0, 0, 0, 0), "z": ()}, False), ({"z": ()}, False), ({}, False),
            ({"a": (0, 0, 0), "z": (0,)}, False), ({"a": (0, 0, 0), "z": (), "b": ()}, False), (None, False),
            ({"a": (0, 0, 997), "z": ()}, False), ({"a": (0, 0, True), "z": ()}, False), ({"a": [0, 0, 0], "z": ()}, False),
        ):
            self.assertIs(is_filling(frames, ({(1, 1): tree}, {})), right, tree)
        self.assertIs(is_filling(PARTLY, ({(1, 1): {}}, {key: (0,) * many for key, many in free_numbers(PARTLY).items()})), True)

    def test_the_tree_without_entries_for_a_gap(self):
        frames = frames_of(7, (1, 2, (1, 1), ("put", "a", (3,)), 1), 0)
        history = filled(frames, ({(1, 1): {}}, {}))
        self.assertEqual([version(history, (1, 1)), version(history, (1, 2)), history[-2][:2], history[-2][3][0]],
                         [{}, {"a": (3,)}, (1, 1), "drop"])
        self.assertEqual(len(history), 3)

    def test_entries_of_48_49_and_996_cells(self):
        frames = frames_of(7, (1, 2, (1, 1), ("put", "a", (3,)), 1), 0)
        for length, many in ((0, 1), (1, 1), (48, 1), (49, 2), (96, 2), (97, 3), (996, 21)):
            filling = ({(1, 1): {"b": tuple(range(length))}}, {})
            history = filled(frames, filling)
            self.assertEqual(len(history), many + 1)
            self.assertEqual(version(history, (1, 2)), {"a": (3,), "b": tuple(range(length))})
            self.assertEqual(filling_of(frames, history), filling)
        both = filled(frames, ({(1, 1): {"b": (1,) * 49, "c": (), "d": (2,) * 48}}, {}))
        self.assertEqual([len(both), version(both, (1, 1))], [5, {"b": (1,) * 49, "c": (), "d": (2,) * 48}])

    def test_13000_puts_and_one_more(self):
        frames = frames_of(7, (1, 2, (1, 1), ("put", "a", ()), 1), 0)
        tree = named_tree(13000)
        history = filled(frames, ({(1, 1): tree}, {}))
        self.assertEqual([len(history), version(history, (1, 1)) == tree], [13001, True])
        more = ({(1, 1): named_tree(13001)}, {})
        self.assertIs(is_filling(frames, more), True)
        wrong.check_raises(self, (errors.TooMany, {"most": 13000}), filled, (frames, more))
        self.assertEqual(len(version_by(frames, more, (1, 2))), 13002)
        # Two gaps, and entries that want patches.
        two = frames + frames_of(7, (2, 2, (2, 1), ("put", "a", ()), 1), 0)
        trees = {(1, 1): named_tree(619, (5,) * 996), (2, 1): {"b": (1,) * 49}}
        self.assertEqual(plain_puts(trees[(1, 1)]) + plain_puts(trees[(2, 1)]), 13001)
        wrong.check_raises(self, (errors.TooMany, {"most": 13000}), filled, (two, (trees, {})))
        trees[(2, 1)] = {"b": (1,) * 48}
        history = filled(two, (trees, {}))
        self.assertEqual([len(history), filling_of(two, history) == (trees, {})], [13002, True])

    def test_hands_that_are_named_are_not_taken(self):
        fresh = (1, 4, 996) + tuple(range(500, 511))
        hands = [hand for hand in range(1, 997) if hand not in fresh]
        frames = ()
        for hand, base in zip(hands[:491], hands[491:982]):
            frames += frames_of(7, (hand, 5, (base, 3), ("put", "a", ()), 1), 0)
        trees = {gap: {} for gap in gaps(sketch_of(frames))}
        trees[(hands[491], 3)] = {"a": tuple(range(100))}
        history = filled(frames, (trees, {}))
        self.assertIs(has_frames(history, frames), True)
        self.assertEqual(filling_of(frames, history), (trees, {}))
        # As many puts as there may be, beside 490 trees without entries.
        trees[(hands[491], 3)] = named_tree(13000)
        history = filled(frames, (trees, {}))
        self.assertEqual({save[0] for save in history}, set(range(1, 997)))
        self.assertIs(has_frames(history, frames), True)
        self.assertEqual(len(history), 12999 + 490 + 982)

    def test_values_that_are_no_filling(self):
        self.assertIs(is_filling(FRAMES, RIGHT), True)
        numbers = {key: (0,) * many for key, many in free_numbers(PARTLY).items()}
        right = ({(1, 1): {}}, numbers)
        self.assertIs(is_filling(PARTLY, right), True)
        for value in wrong.ODD + (
            list(RIGHT), RIGHT[:1], RIGHT + ({},), (RIGHT[1], RIGHT[0]), ({}, {}), ({(1, 1): {"a": (1, 2, 3)}}, None),
            ({(1, 1): {"a": (1, 2, 3)}, (2, 1): {}}, {}), ({(1, 2): {"a": (1, 2, 3)}}, {}), (RIGHT[0], {((1, 2), 0): ()}),
            ({(1, True): {"a": (1, 2, 3)}}, {}), (None, {}), ({(True, 1): {"a": (1, 2, 3)}}, {}), ([((1, 1), {"a": ()})], {}),
            (RIGHT[0], []), (RIGHT[0], ()), ({1: {}}, {}), ({None: {}}, {}), ({"a": (1, 2, 3)}, {}), Reading(()),
        ):
            self.assertIs(is_filling(FRAMES, value), False, repr(value)[:60])
        for key, told in (
            (((1, 2), 0), None), (((1, 2), 0), (0, 0)), (((1, 2), 0), (0,) * 4), (((1, 2), 0), [0, 0, 0]),
            (((1, 2), 0), (0, 0, True)), (((1, 2), 0), (0, 0, 997)), (((1, 2), 6), (0,)), (((1, 1), 0), (0,)),
            ((1, 2), ()), (((1, 2), 0, 0), ()), ("a", ()), (None, ()), ((None, 0), ()),
            (((1, 2), "0"), ()), ((0, (1, 2)), ()),
        ):
            self.assertIs(is_filling(PARTLY, (right[0], {**numbers, key: told})), False, (key, told))
        swapped = {((save, True) if column == 1 else (save, column)): told for (save, column), told in numbers.items()}
        self.assertIs(is_filling(PARTLY, (right[0], swapped)), False)
        for key in numbers:
            less = {other: told for other, told in numbers.items() if other != key}
            self.assertIs(is_filling(PARTLY, (right[0], less)), False)
            wrong.check_raises(self, errors.InvalidOperation, filled, (PARTLY, (right[0], less)))

    def test_nothing_is_shared(self):
        frames = FRAMES
        told = some_filling(frames)
        told[0][(1, 1)]["z"] = ()
        told[0].clear()
        self.assertEqual(some_filling(frames), ({(1, 1): {"a": (0, 0, 0)}}, {}))
        given = {"c": (), "a": (1, 2, 3)}
        filled(frames, ({(1, 1): given}, {}))
        version_by(frames, ({(1, 1): given}, {}), (1, 1))["q"] = ()
        self.assertEqual(list(given), ["c", "a"])
        turned = {"a": (1, 2, 3), "c": ()}
        self.assertEqual(filled(frames, ({(1, 1): given}, {})), filled(frames, ({(1, 1): turned}, {})))
        self.assertEqual(repr(version_by(frames, ({(1, 1): given}, {}), (2, 1))), repr({"b": (1, 2, 3), "c": ()}))

    def test_gaps_in_whatever_sequence(self):
        frames = FRAMES + frames_of(7, (5, 1, (4, 4), ("put", "a", ()), 1), 0)
        one = {(1, 1): {"a": (1, 2, 3)}, (4, 4): {"b": (), "c": ()}}
        other = {gap: one[gap] for gap in ((4, 4), (1, 1))}
        self.assertEqual(filled(frames, (one, {})), filled(frames, (other, {})))

    def test_what_is_not_true(self):
        frames = frames_of(7, LONG, 0)[:1]
        story = ((3, 1, None, ("put", "q", ()), 1), (1, 1, (3, 1), ("drop", "q"), 1), LONG)
        filling = filling_of(frames, story)
        self.assertNotEqual(filled(frames, filling), story)
        self.assertEqual(filling_of(frames, filled(frames, filling)), filling)
        self.assertIs(has_frames(STORY, frames_of(7, FIRST, 0)), True)
        whole = frames_of(7, LONG, 0)
        self.assertEqual(free_numbers(whole), {})
        self.assertTrue(is_filling(whole, ({(1, 1): {}}, {})) and is_filling(whole, ({(1, 1): {"b": ()}}, {})))

    def test_wrong_arguments(self):
        clash = ((CLASH, (CLASHING,), ()),)
        for function in (free_numbers, some_filling):
            wrong.check_wrong(self, function, (FRAMES,), (WRONG_FRAMES,), clash)
        wrong.check_wrong(self, is_filling, (FRAMES, None), (WRONG_FRAMES, None), ((CLASH, (CLASHING, None), (0,)),))
        then = ((CLASH, (CLASHING, STORY), (0, 1)), (errors.InvalidOperation, (FRAMES, STORY[:2]), (0, 1)),
                (errors.InvalidOperation, (FRAMES, ()), (0, 1)))
        wrong.check_wrong(self, filling_of, (FRAMES, STORY), (WRONG_FRAMES, HISTORY), then)
        value = (errors.InvalidOperation, list(wrong.ODD) + [({}, {}), (RIGHT[0], {((1, 2), 0): ()})])
        wrong.check_wrong(self, filled, (FRAMES, RIGHT), (WRONG_FRAMES, value), ((CLASH, (CLASHING, None), (0,)),))
        then = ((CLASH, (CLASHING, RIGHT, (3, 1)), (0, 2)), (CLASH, (CLASHING, None, (3, 1)), (0, 2)),
                (errors.InvalidOperation, (FRAMES, None, (3, 1)), (0, 2)), (UNKNOWN, (FRAMES, RIGHT, (3, 1)), (0, 2)))
        wrong.check_wrong(self, version_by, (FRAMES, RIGHT, (1, 1)), (WRONG_FRAMES, None, WRONG_SAVE), then)


class UnlikeTest(unittest.TestCase):
    def test_open_exactly_if_two_histories_are_unlike(self):
        counts = {}
        for _ in range(30):
            story, trees, frames = drawn_frames(DRAW)
            for save in plain_named(plain_sights(frames)):
                for question in all_questions(save, NAMES[:4], (0, 1, 6, 995)):
                    found, pair = answer_of(frames, question), unlike_histories(frames, question)
                    self.assertIs(found is None, pair is not None)
                    key = (question[0], pair is not None)
                    counts[key] = counts.get(key, 0) + 1
                    if pair is not None:
                        self.check_unlike(frames, question, pair)
        self.assertTrue(len(counts) == 6 and min(counts.values()) > 30, counts)

    def check_unlike(self, frames, question, pair):
        self.assertIs(is_unlike(frames, question, pair), True)
        for history in pair:
            self.assertTrue(set(frames) <= set(all_frames(ARCHIVE, history)))
        answers = [answer_in(history, question) for history in pair]
        self.assertNotEqual(answers[0], answers[1])
        for paper in (((question[1],), "own", None), ((question[1],), "root", None), ((question[1],), ("own",))):
            self.assertFalse(takes(frames, question, answers[0], paper) or takes(frames, question, answers[1], paper))

    def test_each_kind_of_an_open_question(self):
        frames = FRAMES + frames_of(7, (4, 2, (1, 2), LONG[3], 9), 0)[5:6]
        for question in (
            ("there", (1, 1), "c"), ("length", (2, 1), "c"), ("cell", (4, 2), "c", 0), ("cell", (1, 2), "zzzz", 995),
            ("cell", (1, 1), "a", 0), ("cell", (1, 1), "a", 2), ("cell", (2, 1), "b", 1), ("cell", (1, 2), "a", 3),
            ("cell", (4, 2), "a", 0), ("cell", (4, 2), "a", 19), ("cell", (4, 2), "a", 14),
        ):
            self.check_unlike(frames, question, unlike_histories(frames, question))
        for question in (("there", (1, 1), "a"), ("length", (1, 2), "a"), ("cell", (1, 2), "a", 1), ("cell", (1, 2), "a", 4),
                         ("there", (2, 1), "a"), ("cell", (2, 1), "a", 0), ("length", (1, 1), "b"), ("cell", (4, 2), "a", 20)):
            self.assertIsNone(unlike_histories(frames, question))

    def test_long_entries_below_do_not_hinder(self):
        frames = ()
        for number in range(1, 491):
            frames += frames_of(7, (1, number, (number + 1, 7), ("rename", "a", "b"), 1), 996)
        for question in (("cell", (1, 5), "b", 995), ("cell", (1, 5), "c", 995), ("there", (6, 7), "c")):
            self.assertIs(is_unlike(frames, question, unlike_histories(frames, question)), True)

    def test_wrong_arguments(self):
        question = ("there", (3, 1), "a")
        then = ((CLASH, (CLASHING, question), (0, 1)), (UNKNOWN, (FRAMES, question), (0, 1)),
                (UNKNOWN, (FRAMES, ("cell", (3, 1), "a", 3)), (0, 1)))
        wrong.check_wrong(self, unlike_histories, (FRAMES, ("there", (1, 1), "a")), (WRONG_FRAMES, QUESTION), then)


if __name__ == "__main__":
    unittest.main()
