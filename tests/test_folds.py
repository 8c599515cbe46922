"""Steps between trees, folds of trees, and versions that are kept."""

import itertools
import random
import unittest

from stillread import errors
from stillread.keep import folds as module
from stillread.keep.folds import distance, fold, fold_number, is_fold, kept, steps
from stillread.lots import spread
from stillread.lots.spread import all_frames, frames_of
from stillread.plain.histories import is_history, rows_number, version, versions
from stillread.plain.trees import done
from stillread.read import told
from stillread.read.constraints import clash
from stillread.read.told import Reading
from tests import wrong
from tests.examples import run_examples
from tests.frames import ARCHIVE, drawn_story
from tests.stories import drawn_history
from tests.test_constraints import FRAMES as WRONG_FRAMES
from tests.test_histories import STORY, STORY_ROWS
from tests.test_told import CLASH, CLASHING, FRAMES, all_questions

EXAMPLES = STORY_ROWS + """
>>> [steps({"a": (1, 2), "c": ()}, {"a": (1,), "b": ()}), len(steps({}, {"a": (0,) * 50})), steps({}, {"a": (7,) * 50})[1]]
[(('drop', 'c'), ('put', 'a', (1,)), ('put', 'b', ())), 2, ('patch', 'a', 48, 0, (7, 7))]
>>> [distance({"a": (1, 2), "c": ()}, {"a": (1,), "b": (0,) * 50}), distance({"a": (1,), "b": (0,) * 50}, {"a": (1, 2), "c": ()})]
[4, 3]
>>> fold(({"a": (5,)}, {}, {"a": (5,), "b": ()}), 4)
(((4, 1, None, ('put', 'a', (5,)), 1), (4, 2, (4, 1), ('put', 'b', ()), 1)), ((4, 1), None, (4, 2)))
>>> [fold_number(({"a": (), "b": ()}, {"b": ()}, {"b": (), "c": ()})), is_fold(({"b": ()},), (((9, 7, None, ("put", "b", ()), 3),), ((9, 7),))), is_fold(({"b": ()},), ((), (None,)))]
[4, True, False]
>>> FRAMES, NAMES = kept(all_frames(7, STORY), ((1, 2), (2, 1)), 3, more=1)
>>> [NAMES, len(FRAMES), Reading(FRAMES[::2]).versions()]
[((3, 1), (3, 2)), 4, {(3, 1): {'a': (5, 8, 9, 7)}, (3, 2): {'b': (5, 6, 7)}}]
>>> kept(all_frames(7, STORY)[2:], ((1, 2),), 3)
raises Refused(('open', (1, 2)))
"""
DRAW = random.Random(200)
NAMES = ("a", "b", "zz", "abcd")
LENGTHS = (0, 0, 1, 2, 47, 48, 49, 96, 97)


def is_tree(value):
    return isinstance(value, dict) and all(wrong.is_name(name) and wrong.is_cells(cells, 996) for name, cells in value.items())


TREE = (errors.InvalidTree, wrong.odd_but(is_tree) + [{"a": (1,) * 997}, {"a": (True,)}, {"A": ()}])
TREES = (errors.InvalidTree, wrong.odd_but(lambda value: value == ()) + [
    [{}], ({},) * 13, ({}, None), ({"a": (1,) * 997},), ({"a": (True,)},), {"a": ()}, ((),), (FRAMES,)])
HAND = (errors.InvalidNumber, wrong.odd_but(lambda value: wrong.is_int(value, 1, 996)) + [0, 997, True])
MORE = (errors.InvalidNumber, wrong.odd_but(lambda value: wrong.is_int(value, 0, 15)) + [16, -1, True])


def fold_with(trees, hand, more):
    return fold(trees, hand, more=more)


def kept_with(frames, saves, hand, more):
    return kept(frames, saves, hand, more=more)


def drawn_tree(draw, near=None):
    """A tree, often like another one but for an entry or two."""
    tree = dict(near or {})
    for _ in range(draw.choice((0, 1, 1, 2, 4))):
        name = draw.choice(NAMES)
        if name in tree and draw.random() < 0.4:
            del tree[name]
        else:
            tree[name] = tuple(draw.randrange(3) for _ in range(draw.choice(LENGTHS)))
    return {name: tree[name] for name in draw.sample(sorted(tree), len(tree))}


def drawn_trees(draw, many=6):
    trees = []
    for _ in range(draw.randint(0, many)):
        trees.append(drawn_tree(draw, draw.choice([None] + trees)))
    return tuple(trees)


def plain_steps(one, other):
    told = [("drop", name) for name in sorted(set(one) - set(other))]
    for name in sorted(other):
        if one.get(name) == other[name]:
            continue
        told.append(("put", name, other[name][:48]))
        at = 48
        while at < len(other[name]):
            told.append(("patch", name, at, 0, other[name][at:at + 48]))
            at += 48
    return tuple(told)


def plain_fold(trees, hand, more):
    """The fold by the words of the document."""
    saves, names = [], []
    for index, tree in enumerate(trees):
        near = [(len(plain_steps(one, tree)), at) for at, one in enumerate(({},) + trees[:index])]
        best = min(near)[1]
        last = names[best - 1] if best else None
        for deed in plain_steps(({},) + trees[:index] and (({},) + trees[:index])[best], tree):
            name = (hand, len(saves) + 1)
            saves.append(name + (last, deed, min(16, rows_number(deed) + more)))
            last = name
        names.append(last)
    return tuple(saves), tuple(names)


class StepsTest(unittest.TestCase):
    def test_examples(self):
        run_examples(self, EXAMPLES, {**vars(errors), **vars(spread), **vars(told), **vars(module)})

    def test_steps_lead_from_one_tree_to_the_other(self):
        for _ in range(400):
            one = drawn_tree(DRAW)
            other, third = drawn_tree(DRAW, DRAW.choice((one, None))), drawn_tree(DRAW, one)
            row = steps(one, other)
            self.assertEqual(row, plain_steps(one, other))
            tree = one
            for deed in row:
                tree = done(tree, deed)
            self.assertEqual(tree, other)
            self.assertEqual(distance(one, other), len(row))
            self.assertEqual(distance(one, other) == 0, one == other)
            self.assertLessEqual(distance(one, other), distance(one, third) + distance(third, other))

    def test_long_entries(self):
        for length, many in ((0, 1), (1, 1), (48, 1), (49, 2), (96, 2), (97, 3), (996, 21)):
            cells = tuple(range(length))
            row = steps({}, {"a": cells})
            self.assertEqual([len(row), distance({"a": (5,) * 48}, {"a": cells}), distance({"a": cells}, {})], [many, many, 1])
            self.assertEqual(sum((deed[-1] for deed in row), ()), cells)
            self.assertEqual(steps({"a": cells}, {"a": cells}), ())
        self.assertEqual(steps({"b": (1,)}, {"a": (1,)}), (("drop", "b"), ("put", "a", (1,))))
        self.assertEqual(steps({}, {}), ())

    def test_wrong_arguments(self):
        for function in (steps, distance):
            wrong.check_wrong(self, function, ({"a": ()}, {"b": (1,)}), (TREE, TREE))


class FoldsTest(unittest.TestCase):
    def test_drawn_folds(self):
        for _ in range(250):
            trees, hand, more = drawn_trees(DRAW), DRAW.choice((1, 5, 996)), DRAW.choice((0, 0, 1, 9, 15))
            history, names = fold(trees, hand, more=more)
            self.assertEqual((history, names), plain_fold(trees, hand, more))
            self.assertIs(is_history(history), True)
            self.assertIs(is_fold(trees, (history, names)), True)
            self.assertEqual(fold_number(trees), len(history))
            self.assertLessEqual(len(history), sum(distance({}, tree) for tree in trees))
            trees_told = versions(history)
            self.assertEqual([trees_told[name] if name else {} for name in names], list(trees))
            self.check_judged(trees, history, names)

    def check_judged(self, trees, history, names):
        """Names bent, and saves that are left out."""
        told = versions(history)
        for index, name in enumerate(names):
            for other in list(told) + [None, (996, 996)]:
                bent = names[:index] + (other,) + names[index + 1:]
                right = (other is None and trees[index] == {}) or (other in told and told[other] == trees[index])
                self.assertIs(is_fold(trees, (history, bent)), right)
        self.assertIs(is_fold(trees, (history, names + (None,))), False)
        if history:
            less = history[:-1]
            right = all(name is None or name in versions(less) for name in names)
            self.assertIs(is_fold(trees, (less, names)), right)

    def test_no_trees_twelve_and_thirteen(self):
        self.assertEqual([fold((), 3), fold_number(()), is_fold((), ((), ())), is_fold((), (STORY, ()))], [((), ()), 0, True, True])
        twelve = tuple({"a": (number,)} for number in range(12))
        self.assertEqual([fold_number(twelve), len(fold(twelve, 1)[0]), is_fold(twelve, fold(twelve, 1))], [12, 12, True])
        for function, rest in ((fold, (1,)), (is_fold, (None,)), (fold_number, ())):
            wrong.check_raises(self, errors.InvalidTree, function, (twelve + ({},),) + rest)

    def test_equal_trees(self):
        history, names = fold(({"a": ()}, {}, {"a": ()}, {}, {}), 2)
        self.assertEqual([history, names], [((2, 1, None, ("put", "a", ()), 1),), ((2, 1), None, (2, 1), None, None)])
        self.assertEqual(fold(({}, {}), 2), ((), (None, None)))
        turned = ({"a": (1,), "b": ()}, {"b": (), "a": (1,)})
        self.assertEqual([fold(turned, 2)[1], fold(turned, 2) == fold(turned[::-1], 2)], [((2, 2), (2, 2)), True])
        for value, right in ((((), (None,)), True), ((((2, 1, None, ("put", "a", ()), 1),), (None,)), True),
                             ((((2, 1, None, ("put", "a", ()), 1), (2, 2, (2, 1), ("drop", "a"), 1)), ((2, 2),)), True),
                             ((((2, 1, None, ("put", "a", ()), 1),), ((2, 1),)), False)):
            self.assertIs(is_fold(({},), value), right)

    def test_trees_that_are_equally_near(self):
        # One step from each: {} is ahead of all, and the first tree ahead of the second one.
        history, names = fold(({"a": ()}, {"b": ()}, {"c": ()}), 1)
        self.assertEqual([save[2] for save in history], [None] * 3)
        history, names = fold(({"a": (), "q": (1,)}, {"b": (), "q": (1,)}, {"a": (), "b": (), "q": (1,)}), 1)
        self.assertEqual([history[-1][2], names[0]], [(1, 2), (1, 2)])
        history, names = fold(({"a": (), "q": (1,), "r": ()}, {"b": (), "q": (1,), "r": ()}, {"q": (1,), "r": ()}), 1)
        self.assertEqual([len(history), history[-1]], [6, (1, 6, (1, 3), ("drop", "a"), 1)])

    def test_more_and_frames(self):
        trees = ({"a": tuple(range(48)), "b": ()},)
        for more, wanted in ((0, [8, 1]), (1, [9, 2]), (8, [16, 9]), (9, [16, 10]), (15, [16, 16])):
            self.assertEqual([save[4] for save in fold(trees, 7, more=more)[0]], wanted)

    def test_996_saves_and_one_more(self):
        letters = "abcdefghijklmnopqrstuvwxyz"
        names = ["".join(pair) for pair in itertools.product(letters, repeat=2)]
        trees = ({name: (1,) for name in names[:600]}, {name: (2,) for name in names[:396]})
        self.assertEqual([fold_number(trees), len(fold(trees, 1)[0]), fold(trees, 1)[1]], [996, 996, ((1, 600), (1, 996))])
        more = (trees[0], {name: (2,) for name in names[:397]})
        self.assertEqual(fold_number(more), 997)
        wrong.check_raises(self, (errors.TooMany, {"most": 996}), fold, (more, 1))
        long = ({name: (1,) * 996 for name in names[:48]},)
        wrong.check_raises(self, (errors.TooMany, {"most": 996}), fold, (long, 1))
        self.assertEqual(fold_number(long), 1008)

    def test_folds_of_others(self):
        trees = (version(STORY, (1, 2)), version(STORY, (2, 1)), {})
        self.assertIs(is_fold(trees, (STORY, ((1, 2), (2, 1), None))), True)
        self.assertIs(is_fold(trees, (STORY, ((2, 1), (1, 2), None))), False)
        self.assertIs(is_fold(trees[::-1], (STORY, (None, (2, 1), (1, 2)))), True)
        for value in wrong.ODD + (
            (STORY, ((1, 2), (2, 1))), (STORY, ((1, 2), (2, 1), None, None)), (list(STORY), ((1, 2), (2, 1), None)),
            (STORY, [(1, 2), (2, 1), None]), [STORY, ((1, 2), (2, 1), None)], (STORY, ((1, 2), (2, 1), (1, 1))),
            (STORY[:2], ((1, 2), (2, 1), None)), (STORY, ((1, 2), [2, 1], None)), (STORY, ((1, 2), (2, True), None)),
            (STORY, ((1, 2), None, None)), (STORY, None), (STORY[1:], ((1, 2), (2, 1), None)), (STORY, ((1, 2), (2, 1), 0)),
            (STORY, ((1, 2), (2, 1), False)), (STORY,), (STORY, ((1, 2), (2, 1), None), 0), (STORY, ((1, 2), (2, 1), ())),
        ):
            self.assertIs(is_fold(trees, value), False, repr(value)[:60])

    def test_what_is_not_true(self):
        self.assertEqual(fold_number(({"a": (0,) * 49},)), 2)
        self.assertNotEqual(distance({"a": (1,) * 49}, {}), distance({}, {"a": (1,) * 49}))
        trees = ({"a": (), "b": ()}, {"a": ()})
        self.assertEqual([fold_number(trees), fold_number(trees[::-1])], [3, 2])

    def test_wrong_arguments(self):
        wrong.check_wrong(self, fold_with, (({"a": ()},), 1, 0), (TREES, HAND, MORE))
        wrong.check_wrong(self, is_fold, (({"a": ()},), None), (TREES, None))
        wrong.check_wrong(self, fold_number, (({"a": ()},),), (TREES,))
        names = ["".join(letters) for letters in itertools.product("abcdefghij", repeat=3)]
        many = ({name: () for name in names},)
        then = (((errors.TooMany, {"most": 996}), (many, 1, 0), (0, 1, 2)),)
        wrong.check_wrong(self, fold_with, (({"a": ()},), 996, 15), (TREES, HAND, MORE), then)


class KeptTest(unittest.TestCase):
    def whole_story(self):
        """Frames of a story, a reading of them, and some of its whole saves."""
        while True:
            story, trees = drawn_story(DRAW, 8, 0.3)
            frames = all_frames(ARCHIVE, story)
            frames = tuple(body for body in frames if DRAW.random() < 0.95)
            reading = Reading(frames)
            whole = list(reading.versions())
            if whole:
                return frames, reading, tuple(DRAW.choices(whole, k=DRAW.randint(0, 12)))

    def test_what_is_kept(self):
        for _ in range(60):
            frames, reading, saves = self.whole_story()
            more = DRAW.choice((0, 0, 1, 2))
            told, names = kept(frames, saves, 9, more=more)
            trees = tuple(reading.versions()[save] for save in saves)
            history, wanted = fold(trees, 9, more=more)
            self.assertEqual([told, names], [all_frames(ARCHIVE, history), wanted])
            some = self.some_of_each(told, history)
            versions_told = Reading(some).versions() if len(some) <= 491 else {}
            if len(some) <= 491:
                self.assertEqual([versions_told[name] if name else {} for name in names], list(trees))
            if len(told) + len(frames) <= 491:
                self.assertIsNone(clash(frames + told))
                self.check_no_answer_changed(reading, Reading(frames + told))

    def some_of_each(self, frames, history):
        """Just k drawn frames of each save."""
        some = []
        for save in history:
            own = [body for body in frames if body[1:3] == save[:2]]
            some.extend(DRAW.sample(own, rows_number(save[3])))
        return tuple(some)

    def check_no_answer_changed(self, reading, both):
        for save in reading.saves:
            self.assertEqual(reading.known_entries(save), both.known_entries(save))
            for question in all_questions(save, ("a", "b"), (0, 3)):
                self.assertEqual(reading.answer(question), both.answer(question))

    def test_edges(self):
        self.assertEqual([kept((), (), 3), kept(all_frames(7, STORY), (), 3)], [((), ())] * 2)
        empty = STORY + ((1, 3, (1, 2), ("drop", "a"), 1),)
        self.assertEqual(kept(all_frames(7, empty), ((1, 3), (1, 3)), 3), ((), (None, None)))
        self.assertEqual(kept(all_frames(9, STORY)[:1], ((1, 1),), 3), (frames_of(9, (3, 1) + STORY[0][2:4] + (1,), 0), ((3, 1),)))
        told, names = kept(all_frames(9, STORY), ((1, 1), (1, 2), (1, 1), (2, 1)), 3, more=15)
        self.assertEqual([len(told), names, {body[0] for body in told}], [48, ((3, 1), (3, 2), (3, 1), (3, 3)), {9}])

    def test_versions_that_are_not_whole(self):
        frames = all_frames(7, STORY)
        for some, save in ((frames[2:], (1, 2)), (frames[2:], (1, 1)), (frames[:2] + frames[4:], (1, 2)), (frames[:4], (2, 1))):
            if save in Reading(some).saves:
                wrong.check_raises(self, (errors.Refused, {"reason": ("open", save)}), kept, (some, ((save),), 3))
        partly = frames_of(7, (1, 1, None, ("put", "a", (1,) * 7), 2), 0)[:1]
        wrong.check_raises(self, (errors.Refused, {"reason": ("open", (1, 1))}), kept, (partly, ((1, 1),), 3))
        self.assertEqual(kept(frames[:3], ((1, 1),), 3)[1], ((3, 1),))

    def test_hands_that_frames_name(self):
        base = frames_of(7, (1, 2, (5, 1), ("put", "a", ()), 1), 0)
        frames = base + frames_of(7, (6, 1, None, ("put", "a", ()), 1), 0)
        for hand in (1, 5, 6):
            wrong.check_raises(self, (errors.Refused, {"reason": ("hand", hand)}), kept, (frames, ((6, 1),), hand))
            wrong.check_raises(self, (errors.Refused, {"reason": ("hand", hand)}), kept, (frames, (), hand))
        self.assertEqual(kept(frames, ((6, 1),), 2)[1], ((2, 1),))
        for hand in (1, 996):
            self.assertEqual(kept((), (), hand), ((), ()))

    def test_versions_that_lie_far_apart(self):
        # 75 entries, of which 37 are renamed from each version to the next one.
        letters = "abcdefghijklmnopqrstuvwxyz"
        names = ["".join(pair) for pair in itertools.product(letters, repeat=2)]
        deeds = [("put", name, ()) for name in names[:75]]
        for number in range(11 * 37):
            deeds.append(("rename", names[number], names[75 + number]))
        story, last = [], None
        for number, deed in enumerate(deeds, 1):
            story.append((1, number, last, deed, 1))
            last = (1, number)
        heads = tuple((1, 75 + 37 * stage) for stage in range(12))
        told, saves = kept(all_frames(7, tuple(story)), heads, 3)
        self.assertEqual([len(told), saves[0], saves[-1]], [75 + 11 * 74, (3, 75), (3, 75 + 11 * 74)])

    def test_wrong_arguments(self):
        frames = all_frames(7, STORY)
        saves = (errors.InvalidSave, wrong.odd_but(lambda value: value == () or (
            isinstance(value, tuple) and all(wrong.is_save_name(one) for one in value))) + [
                [(1, 1)], ((1, 1),) * 13, ((1, 1), None), ((1, True),), (1, 1), ((0, 1),)])
        good = (frames, ((1, 1),), 3, 0)
        unknown = (errors.UnknownName, {"wanted": (4, 1)})
        refused = [(errors.Refused, {"reason": reason}) for reason in (("open", (1, 2)), ("hand", 1))]
        less = frames[2:]
        then = ((CLASH, (CLASHING, ((4, 1),), 1, 0), (0, 1, 2, 3)), (unknown, (less, ((1, 2), (4, 1), (5, 1)), 1, 0), (0, 1, 2, 3)),
                (unknown, ((), ((4, 1),), 1, 0), (0, 1, 2, 3)), (refused[0], (less, ((1, 2), (1, 1)), 1, 0), (0, 1, 2, 3)),
                (refused[1], (frames, ((1, 2),), 1, 15), (0, 1, 2, 3)))
        wrong.check_wrong(self, kept_with, good, (WRONG_FRAMES, saves, HAND, MORE), then)
        self.assertEqual(kept(frames, ((1, 1),) * 12, 996)[1], ((996, 1),) * 12)

    def test_any_history_is_kept_whole(self):
        for _ in range(25):
            story, trees = drawn_history(DRAW, 7)
            saves = tuple(sorted(trees))[:12]
            frames = all_frames(7, story)[:491]
            if len(all_frames(7, story)) <= 491:
                told, names = kept(frames, saves, 500)
                self.assertEqual([Reading(told).versions()[name] if name else {} for name in names],
                                 [trees[save] for save in saves])


if __name__ == "__main__":
    unittest.main()
