"""What frames tell: reaches, answers with papers, and readings."""

import itertools
import random
import unittest

from stillread import errors
from stillread.lots import spread
from stillread.lots.spread import all_frames, frames_of, with_payload
from stillread.paper.checker import answer_in, takes
from stillread.read import told as module
from stillread.read.told import Reading, answer_of, reach
from tests import wrong
from tests.examples import run_examples
from tests.frames import drawn_story, plain_sights, some_frames
from tests.papers import papers_for, plain_named, plain_takes, plain_trail
from tests.sketches import NAMES
from tests.test_checker import QUESTION
from tests.test_constraints import FRAMES as WRONG_FRAMES
from tests.test_histories import APART, FIRST, NEXT, STORY, STORY_ROWS
from tests.test_pieces import WRONG_SAVE

EXAMPLES = STORY_ROWS + """
>>> FRAMES = frames_of(7, NEXT, 3) + frames_of(7, APART, 3)
>>> READ = Reading(FRAMES)
>>> [str(READ), READ.gaps, READ.known_entries((1, 1)), READ.known_entries((1, 2)), READ.known_entries((2, 1))]
['3 frames, 3 saves, 1 gaps', ((1, 1),), {'a': (None, None, None)}, {'a': (None, 8, 9, None)}, {'b': (None, None, None)}]
>>> [READ.answer(("there", (1, 2), "b"))[0], READ.answer(("there", (2, 1), "c")), READ.answer(("length", (1, 2), "a"))[0], READ.answer(("cell", (1, 2), "a", 1))[0]]
[False, None, 4, 8]
>>> [READ.answer(("cell", (1, 2), "a", 0)), READ.answer(("cell", (1, 2), "a", 4))[0]]
[None, None]
>>> [reach(FRAMES, (2, 1), "c"), reach(FRAMES, (1, 2), "a"), READ.is_whole((1, 2)), READ.open_cells((2, 1))]
[((1, 1), (1, 2), (2, 1)), ((1, 2),), False, (('b', 0), ('b', 1), ('b', 2))]
>>> [Reading(FRAMES + frames_of(7, FIRST, 0)[:1]).versions(), Reading(()).saves]
[{(1, 1): {'a': (5, 6, 7)}, (1, 2): {'a': (5, 8, 9, 7)}, (2, 1): {'b': (5, 6, 7)}}, ()]
>>> READ.answer(("there", (3, 1), "a"))
raises UnknownName((3, 1))
"""
DRAW = random.Random(140)
FRAMES = frames_of(7, NEXT, 3) + frames_of(7, APART, 3)
# Frames with just one clash, and its reason.
CLASHING = frames_of(7, FIRST, 0) + frames_of(7, (2, 1, (1, 1), ("drop", "a"), 1), 4)
CLASH = (errors.Refused, {"reason": ("deed", (2, 1), ("length", "a"))})
UNKNOWN = (errors.UnknownName, {"wanted": (3, 1)})
NAME = (errors.InvalidName, wrong.odd_but(wrong.is_name))
PLACES = (0, 1, 2, 3, 5, 6, 12, 47, 995)


def drawn_frames(draw, many=8, most=491):
    """A drawn story, the dict of its versions, and some of its frames."""
    story, trees = drawn_story(draw, many)
    return story, trees, some_frames(draw, story, most)


def all_questions(save, names, places=PLACES):
    for name in names:
        yield ("there", save, name)
        yield ("length", save, name)
        for place in places:
            yield ("cell", save, name, place)


def names_about(frames, trees, save):
    """Names that frames or a version speak of, and one more."""
    return sorted(set(NAMES) | set(trees[save]) | {"qqqq"})


def plain_reach(sights, save, name):
    """All saves to which trails lead, step by step."""
    named, found = plain_named(sights), {save}
    for _ in named:
        found |= {other for one in found for other in named if plain_trail(sights, name, (one, other))}
    return tuple(sorted(found))


def rows_of_saves(*deeds, base=None, hand=1):
    """Saves of a hand, each one on the one ahead."""
    saves = []
    for number, deed in enumerate(deeds, 1):
        saves.append((hand, number, saves[-1][:2] if saves else base, deed, 2))
    return tuple(saves)


class AnswersTest(unittest.TestCase):
    def test_examples(self):
        run_examples(self, EXAMPLES, {**vars(errors), **vars(spread), **vars(module)})

    def test_told_exactly_if_some_paper_is_found(self):
        counts = {True: 0, False: 0}
        for _ in range(30):
            story, trees, frames = drawn_frames(DRAW)
            for save in plain_named(plain_sights(frames)):
                for question in all_questions(save, NAMES, (0, 1, 3, 6, 995)):
                    found = answer_of(frames, question)
                    papers = papers_for(frames, question)
                    self.assertIs(found is None, not papers, (frames, question))
                    counts[found is None] += 1
                    if found is not None:
                        self.check_told(story, frames, question, found)
                        self.assertEqual({repr(answer) for answer, paper in papers}, {repr(found[0])})
        self.assertGreater(min(counts.values()), 300)

    def check_told(self, story, frames, question, found):
        """The answer is that of the history, and its paper is taken for it alone."""
        answer, paper = found
        self.assertEqual(repr(answer), repr(answer_in(story, question)))
        self.assertIs(takes(frames, question, answer, paper), True)
        self.assertIs(plain_takes(frames, question, answer, paper), True)
        for other in (None, True, False, 0, 1, 5, 996, 997, "a", (), answer is None):
            if repr(other) != repr(answer):
                self.assertIs(takes(frames, question, other, paper), False)

    def test_the_sequence_of_frames_does_not_matter(self):
        for _ in range(30):
            story, trees, frames = drawn_frames(DRAW)
            shuffled = DRAW.sample(frames + frames[:3], len(frames + frames[:3]))
            for save in plain_named(plain_sights(frames)):
                for question in all_questions(save, ("a", "b"), (0, 2)):
                    self.assertEqual(answer_of(frames, question), answer_of(tuple(shuffled), question))
                self.assertEqual(reach(frames, save, "a"), reach(tuple(shuffled), save, "a"))

    def test_more_frames_tell_more_with_the_same_answers(self):
        more = 0
        for _ in range(60):
            story, trees, frames = drawn_frames(DRAW)
            few = tuple(body for body in frames if DRAW.random() < 0.7)
            before, behind = Reading(few), Reading(frames)
            for save in plain_named(plain_sights(few)):
                for question in all_questions(save, NAMES, (0, 1, 6)):
                    one, other = before.answer(question), behind.answer(question)
                    more += one is None and other is not None
                    if one is not None:
                        self.assertEqual(repr(one[0]), repr(other[0]))
                        self.assertIs(takes(frames, question, one[0], one[1]), True)
        self.assertGreater(more, 50)

    def test_reaches(self):
        lengths = set()
        for _ in range(50):
            story, trees, frames = drawn_frames(DRAW)
            sights = plain_sights(frames)
            for save, name in itertools.product(plain_named(sights), NAMES):
                told = reach(frames, save, name)
                self.assertEqual(told, plain_reach(sights, save, name))
                lengths.add(len(told))
        self.assertTrue({1, 2, 3} <= lengths)

    def test_all_of_a_reach_have_one_answer(self):
        for _ in range(40):
            story, trees, frames = drawn_frames(DRAW)
            sights = plain_sights(frames)
            gaps = Reading(frames).gaps
            for save, name in itertools.product(plain_named(sights), NAMES[:3]):
                own = answer_of(frames, ("length", save, name))
                told = reach(frames, save, name)
                for other in told:
                    found = answer_of(frames, ("length", other, name))
                    self.assertEqual(own is None, found is None)
                    self.assertTrue(own is None or own[0] == found[0])
                if own is None:
                    self.assertEqual(len([one for one in told if one in gaps]), 1)

    def test_branches_of_which_one_alone_says_something(self):
        base, rest = (9, 9), ("put", "z", ())
        frames = ()
        for hand in (1, 2, 3):
            frames += frames_of(7, (hand, 1, base, rest, 1), 0) + frames_of(7, (hand, 2, (hand, 1), rest, 1), 0)
        says = frames_of(7, (3, 3, (3, 2), ("rename", "a", "b"), 1), 4)
        for save in (base, (1, 1), (1, 2), (2, 2), (3, 1)):
            for name, there, length in (("a", True, 4), ("b", False, None)):
                self.assertIsNone(answer_of(frames, ("there", save, name)))
                self.assertIsNone(answer_of(frames, ("cell", save, name, 5)))
                self.assertIs(answer_of(frames + says, ("there", save, name))[0], there)
                self.assertEqual(answer_of(frames + says, ("length", save, name))[0], length)
                self.assertIsNone(answer_of(frames + says, ("cell", save, name, 5))[0])
                self.assertEqual(answer_of(frames + says, ("cell", save, name, 3)) is None, there)
            self.assertIsNone(answer_of(frames + says, ("there", save, "c")))
        self.assertEqual(reach(frames + says, (1, 2), "a"), ((1, 1), (1, 2), (2, 1), (2, 2), (3, 1), (3, 2), base))
        self.assertEqual(reach(frames + says, (1, 2), "z"), ((1, 2),))
        # What the branch that says it is told by is just its last save.
        self.assertIsNone(answer_of(frames, ("length", (3, 2), "a")))

    def test_names_that_are_renamed_put_anew_and_dropped(self):
        story = rows_of_saves(
            ("put", "a", (1, 2, 3)), ("rename", "a", "b"), ("rename", "b", "c"), ("put", "a", (4,)), ("drop", "c"),
            ("put", "c", (9, 9)), ("drop", "a"), ("patch", "c", 1, 1, (8, 7)))
        frames = all_frames(7, story)
        for some in (frames, frames[::2], frames[1::2]):
            reading = Reading(some)
            for number, wanted in enumerate((
                {"a": (1, 2, 3)}, {"b": (1, 2, 3)}, {"c": (1, 2, 3)}, {"a": (4,), "c": (1, 2, 3)}, {"a": (4,)},
                {"a": (4,), "c": (9, 9)}, {"c": (9, 9)}, {"c": (9, 8, 7)},
            ), 1):
                self.assertEqual(reading.known_entries((1, number)), wanted)
                self.assertIs(reading.is_whole((1, number)), True)
        lost = tuple(body for body in frames if body[2] != 1)
        self.assertEqual(Reading(lost).known_entries((1, 3)), {"c": (None, None, None)})
        self.assertEqual(Reading(lost).known_entries((1, 8)), {"c": (9, 8, 7)})
        self.assertIs(answer_of(lost, ("there", (1, 8), "b"))[0], False)
        self.assertIs(answer_of(lost, ("there", (1, 1), "b"))[0], False)
        self.assertEqual([answer_of(lost, ("there", (1, number), "d")) for number in range(1, 9)], [None] * 8)
        self.assertIs(answer_of(lost, ("there", (1, 4), "b"))[0], False)
        self.assertEqual(answer_of(lost, ("length", (1, 1), "a"))[0], 3)
        self.assertIsNone(answer_of(lost, ("there", (1, 1), "c"))[0] or None)

    def test_places_just_at_ahead_of_and_behind_a_patch(self):
        base = (5, 1)
        patch = frames_of(7, (1, 1, base, ("patch", "a", 3, 2, (41, 42, 43)), 1), 8)
        self.assertEqual(Reading(patch).known_entries((1, 1)), {"a": (None,) * 3 + (41, 42, 43) + (None,) * 3})
        put = frames_of(7, (5, 1, None, ("put", "a", tuple(range(8))), 3), 0)
        for some, wanted in ((put[:1], (0, 1, 2, 41, 42, 43, 5, None, None)),
                             (put[1:2], (None, None, None, 41, 42, 43, None, 6, 7)),
                             (put[2:], (None, None, 2, 41, 42, 43, 5, None, None))):
            told = patch + some
            self.assertEqual(Reading(told).known_entries((1, 1)), {"a": wanted})
            for at, cell in enumerate(wanted):
                found = answer_of(told, ("cell", (1, 1), "a", at))
                self.assertEqual(None if found is None else found[0], cell)
            self.assertIsNone(answer_of(told, ("cell", (1, 1), "a", 9))[0])
        self.assertEqual(Reading(patch + put).known_entries((1, 1)), {"a": (0, 1, 2, 41, 42, 43, 5, 6, 7)})

    def test_columns_with_one_known_place_less_than_k_and_with_k(self):
        cells = tuple(range(100, 115))
        frames = frames_of(7, (1, 1, None, ("put", "a", cells), 6), 0)
        self.assertEqual(Reading(frames[3:4]).known_entries((1, 1)), {"a": (None,) * 15})
        # Three rows, the last one filled from its fourth column on.
        open_ones = (None, None, None, 103, 104, 105, None, None, None, 109, 110, 111, None, None, None)
        self.assertEqual(Reading(frames[3:5]).known_entries((1, 1)), {"a": open_ones})
        self.assertEqual(Reading(frames[3:]).known_entries((1, 1)), {"a": cells})
        own = (100, 101, 102, 103, 104, 105, None, None, None, 109, 110, 111, None, None, None)
        self.assertEqual(Reading(frames[:1] + frames[5:]).known_entries((1, 1)), {"a": own})
        answer, (row, paper) = answer_of(frames[:1] + frames[5:], ("cell", (1, 1), "a", 9))
        self.assertEqual([answer, row, paper[:2]], [109, ((1, 1),), ("poly", (0, 2, 5))])
        self.assertEqual(answer_of(frames, ("cell", (1, 1), "a", 9)), (109, (((1, 1),), ("own",))))

    def test_entries_without_cells(self):
        frames = frames_of(7, (1, 2, (1, 1), ("rename", "a", "b"), 1), 0)
        reading = Reading(frames)
        self.assertEqual([reading.known_entries((1, 1)), reading.known_entries((1, 2))], [{"a": ()}, {"b": ()}])
        self.assertEqual([answer_of(frames, ("length", (1, 1), "a"))[0], answer_of(frames, ("cell", (1, 1), "a", 0))[0]],
                         [0, None])
        self.assertEqual([reading.open_cells((1, 1)), reading.is_whole((1, 1)), reading.is_rooted((1, 1))], [(), False, False])
        put = Reading(frames_of(7, (1, 1, None, ("put", "a", ()), 1), 0))
        self.assertEqual([put.versions(), put.is_whole((1, 1))], [{(1, 1): {"a": ()}}, True])

    def test_wrong_arguments(self):
        good = (FRAMES, (1, 2), "a")
        then = ((CLASH, (CLASHING, (3, 1), "a"), (0, 1, 2)), (UNKNOWN, (FRAMES, (3, 1), "a"), (0, 1, 2)),
                ((errors.UnknownName, {"wanted": (1, 1)}), ((), (1, 1), "a"), (0, 1, 2)))
        wrong.check_wrong(self, reach, good, (WRONG_FRAMES, WRONG_SAVE, NAME), then)
        then = ((CLASH, (CLASHING, ("there", (3, 1), "a")), (0, 1)), (UNKNOWN, (FRAMES, ("length", (3, 1), "a")), (0, 1)),
                (UNKNOWN, (FRAMES, ("cell", (3, 1), "a", 0)), (0, 1)))
        wrong.check_wrong(self, answer_of, (FRAMES, ("there", (1, 1), "a")), (WRONG_FRAMES, QUESTION), then)


class ReadingsTest(unittest.TestCase):
    def test_what_is_told_of_each_entry(self):
        for _ in range(70):
            story, trees, frames = drawn_frames(DRAW)
            reading, sights = Reading(frames), plain_sights(frames)
            self.assertEqual(reading.frames, tuple(sorted(set(frames))))
            self.assertEqual(reading.saves, tuple(plain_named(sights)))
            self.assertEqual(reading.gaps, tuple(save for save in plain_named(sights) if save not in sights))
            self.assertEqual(len(reading), len(reading.saves))
            self.assertEqual(str(reading), "{} frames, {} saves, {} gaps".format(
                len(set(frames)), len(reading.saves), len(reading.gaps)))
            for save in reading.saves:
                self.check_entries(reading, trees, save)
            self.assertEqual(list(reading.versions().items()), [
                (save, trees[save]) for save in reading.saves if reading.is_whole(save)])

    def check_entries(self, reading, trees, save):
        """The entries of a save, by questions about all names that there can be."""
        told, rooted = {}, True
        for name in names_about(reading.frames, trees, save):
            there = reading.answer(("there", save, name))
            rooted = rooted and there is not None
            if there is not None and there[0]:
                length = reading.answer(("length", save, name))[0]
                cells = [reading.answer(("cell", save, name, at)) for at in range(length)]
                told[name] = tuple(None if found is None else found[0] for found in cells)
        self.assertEqual(list(reading.known_entries(save).items()), sorted(told.items()))
        self.assertIs(reading.is_rooted(save), rooted)
        open_cells = tuple((name, at) for name in sorted(told) for at, cell in enumerate(told[name]) if cell is None)
        self.assertEqual(reading.open_cells(save), open_cells)
        self.assertIs(reading.is_whole(save), rooted and not open_cells)
        if rooted:
            self.assertEqual(list(told), sorted(trees[save]))

    def test_no_frames(self):
        reading = Reading(())
        self.assertEqual([reading.frames, reading.saves, reading.gaps, reading.versions(), len(reading), str(reading)],
                         [(), (), (), {}, 0, "0 frames, 0 saves, 0 gaps"])
        for function in (reading.known_entries, reading.is_rooted, reading.is_whole, reading.open_cells):
            wrong.check_raises(self, (errors.UnknownName, {"wanted": (1, 1)}), function, ((1, 1),))

    def test_491_frames_and_one_more(self):
        story = tuple((1, number, (1, number - 1) if number > 1 else None, ("put", "ab"[number % 2], (number,)), 1)
                      for number in range(1, 492))
        reading = Reading(all_frames(7, story))
        self.assertEqual([len(reading), len(reading.versions())], [491, 491])
        self.assertEqual(reading.versions()[(1, 491)], {"a": (490,), "b": (491,)})
        more = all_frames(7, story + ((1, 492, None, ("put", "a", ()), 1),))
        wrong.check_raises(self, errors.InvalidFrames, Reading, (more,))
        wrong.check_raises(self, errors.InvalidFrames, answer_of, (more, ("there", (1, 1), "a")))
        wrong.check_raises(self, errors.InvalidFrames, reach, (more, (1, 1), "a"))
        lost = Reading(all_frames(7, story)[1:])
        self.assertEqual([lost.gaps, lost.versions(), lost.known_entries((1, 491))],
                         [((1, 1),), {}, {"a": (490,), "b": (491,)}])

    def test_entries_of_996_cells_below(self):
        frames = frames_of(7, (1, 1, (5, 1), ("patch", "a", 500, 48, tuple(range(48))), 16), 996)
        told = Reading(frames)
        self.assertEqual(told.known_entries((1, 1)), {"a": (None,) * 500 + tuple(range(48)) + (None,) * 448})
        self.assertEqual([len(told.open_cells((5, 1))), len(told.open_cells((1, 1)))], [996, 948])
        self.assertEqual([told.answer(("cell", (1, 1), "a", at))[0] for at in (500, 547)], [0, 47])
        self.assertEqual([told.answer(("cell", (1, 1), "a", at)) for at in (499, 548, 995)], [None] * 3)

    def test_equal_readings(self):
        one, same = Reading(FRAMES), Reading(FRAMES[::-1] + FRAMES)
        self.assertTrue(one == same and not one != same)
        for other in (Reading(FRAMES[1:]), Reading(()), Reading(all_frames(8, STORY)), FRAMES, None, *wrong.ODD):
            self.assertIs(one == other, False)
            self.assertIs(one != other, True)
        self.assertTrue(Reading(()) == Reading(()))
        with self.assertRaises(TypeError):
            iter(one)

    def test_nothing_is_shared(self):
        reading = Reading(all_frames(7, STORY))
        told = repr([reading.known_entries((1, 2)), reading.versions(), reading.answer(("cell", (1, 2), "a", 0))])
        reading.known_entries((1, 2)).clear()
        reading.versions().clear()
        reading.versions()[(1, 1)]["z"] = ()
        self.assertEqual(
            repr([reading.known_entries((1, 2)), reading.versions(), reading.answer(("cell", (1, 2), "a", 0))]), told)

    def test_what_is_not_true(self):
        reading = Reading(FRAMES)
        self.assertEqual(reading.answer(("length", (1, 1), "a"))[0], 3)
        self.assertEqual([reading.answer(("cell", (1, 1), "a", at)) for at in range(3)], [None] * 3)
        long = Reading(frames_of(7, (1, 1, None, ("put", "a", (1,) * 7), 2), 0)[:1])
        self.assertEqual([long.gaps, long.is_rooted((1, 1)), long.is_whole((1, 1))], [(), True, False])
        put = Reading(frames_of(7, (1, 2, (1, 1), ("put", "a", (1,)), 1), 0))
        self.assertEqual([put.answer(("there", (1, 2), "a"))[0], put.answer(("there", (1, 1), "a"))], [True, None])

    def test_wrong_arguments(self):
        wrong.check_wrong(self, Reading, (FRAMES,), (WRONG_FRAMES,), ((CLASH, (CLASHING,), ()),))
        lying = FRAMES + (with_payload(FRAMES[1], 0, (8, 8, 0, 0, 0, 0)),)
        reason = ("index", lying[-1], FRAMES[0])
        wrong.check_raises(self, (errors.Refused, {"reason": reason}), Reading, (lying,))
        reading = Reading(FRAMES)
        then = ((UNKNOWN, ("there", (3, 1), "a")), (UNKNOWN, ("cell", (3, 1), "a", 995)))
        wrong.check_wrong(self, reading.answer, (("there", (1, 1), "a"),), (QUESTION,),
                          tuple((error, (question,), ()) for error, question in then))
        for function in (reading.known_entries, reading.is_rooted, reading.is_whole, reading.open_cells):
            wrong.check_wrong(self, function, ((1, 1),), (WRONG_SAVE,), ((UNKNOWN, ((3, 1),), ()),))


if __name__ == "__main__":
    unittest.main()
