"""Papers, clashes of frames, and histories with unlike answers, judged."""

import itertools
import random
import unittest

from stillread import errors
from stillread.lots import spread
from stillread.lots.spread import all_frames, frames_of, with_payload
from stillread.paper import checker as module
from stillread.paper.checker import answer_in, has_frames, is_clash, is_question, is_unlike, takes
from stillread.plain.histories import versions
from stillread.read.constraints import clash, fitting_tree, gaps, said, sketch_of
from stillread.read.pieces import Outline
from tests import wrong
from tests.bodies import plain_k
from tests.examples import run_examples
from tests.frames import (
    ARCHIVE, bent_frames, drawn_story, history_for, plain_column, plain_sights, some_frames, wild_frames,
)
from tests.papers import papers_for, plain_named, plain_takes
from tests.sketches import NAMES, all_clashes, plain_is_clash
from tests.stories import drawn_history
from tests.test_constraints import FRAMES as WRONG_FRAMES
from tests.test_histories import APART, FIRST, NEXT, STORY, STORY_ROWS

EXAMPLES = STORY_ROWS + """
>>> FRAMES = frames_of(7, NEXT, 3) + frames_of(7, APART, 3)
>>> [takes(FRAMES, ("length", (1, 2), "a"), 4, (((1, 2),), "own", None)), takes(FRAMES, ("length", (1, 1), "a"), 3, (((1, 1),), "above", (2, 1))), takes(FRAMES, ("there", (1, 2), "b"), False, (((1, 2), (1, 1)), "above", (2, 1)))]
[True, True, True]
>>> [takes(FRAMES, ("cell", (1, 2), "a", 1), 8, (((1, 2),), ("own",))), takes(FRAMES, ("cell", (1, 2), "a", 1), 8, (((1, 2),), ("poly", (1,), (8,)))), takes(FRAMES, ("cell", (1, 2), "a", 0), 5, (((1, 2), (1, 1)), ("own",)))]
[True, True, False]
>>> MORE = FRAMES + frames_of(7, (3, 1, (1, 1), ("drop", "b"), 1), 2)
>>> [is_clash(MORE, ("gap", (1, 1), "b", (2, 1), (3, 1))), is_clash(MORE, ("gap", (1, 1), "a", (1, 2), (2, 1))), is_clash(MORE, ("ring", ((1, 1), (2, 1))))]
[True, False, False]
>>> [has_frames(STORY, FRAMES), has_frames(STORY[:2], FRAMES), answer_in(STORY, ("cell", (1, 2), "a", 3)), answer_in(STORY, ("cell", (1, 2), "a", 4))]
[True, False, 7, None]
>>> is_unlike(FRAMES, ("cell", (1, 2), "a", 0), (STORY, ((1, 1, None, ("put", "a", (4, 6, 7)), 2), NEXT, APART)))
True
>>> takes(FRAMES, ("length", (3, 1), "a"), 4, ())
raises UnknownName((3, 1))
"""
DRAW = random.Random(160)
FRAMES = frames_of(7, NEXT, 3) + frames_of(7, APART, 3)
QUESTION = (errors.InvalidQuestion, list(wrong.ODD) + [
    ["there", (1, 2), "a"], ("there", (1, 2)), ("there", (1, 2), "a", 0), ("there", (0, 2), "a"), ("there", (1, True), "a"),
    ("there", [1, 2], "a"), ("there", (1, 2), "A"), ("there", (1, 2), ""), ("there", (1, 2), ("a",)), ("There", (1, 2), "a"),
    ("length", (1, 2), "a", 1), ("length", None, "a"), ("cell", (1, 2), "a"), ("cell", (1, 2), "a", 996),
    ("cell", (1, 2), "a", -1), ("cell", (1, 2), "a", True), ("cell", (1, 2), "a", None), ("cell", (1, 2), "a", 0, 0),
    (("there",), (1, 2), "a"), (None, (1, 2), "a"), ("cell", (1, 2), ["a"], 0), ("there", (1, 2), None), Outline(None),
    ("cell", (1, 2), "a", 10 ** 59), (["cell"], (1, 2), "a", 0), ("length", (997, 2), "a"), ("where", (1, 2), "a"),
    ("there", (1, 2), "a", 0, 0), ("length", (1, 2), "a", 0, 0),
])
HISTORY = (errors.InvalidHistory, wrong.odd_but(
    lambda value: value == () or repr(value) == repr(((1, 1, None, ("put", "a", ()), 1),))) + [
        list(STORY), (NEXT,), (FIRST, FIRST), (FIRST, (2, 1, (1, 1), ("drop", "b"), 1))])


def plain_answer(tree, question):
    """The answer by a version."""
    cells = tree.get(question[2])
    if question[0] == "there":
        return cells is not None
    if question[0] == "length":
        return None if cells is None else len(cells)
    return cells[question[3]] if cells is not None and question[3] < len(cells) else None


def drawn_questions(saves, many):
    """Questions about some of these saves."""
    for _ in range(many if saves else 0):
        head = (DRAW.choice(saves), DRAW.choice(NAMES))
        yield DRAW.choice((("there",) + head, ("length",) + head, ("cell",) + head + (DRAW.choice((0, 1, 2, 3, 4, 6, 995)),)))


def agreeing(draw):
    """A drawn story, some of its frames, and other histories that have these."""
    story, trees = drawn_story(draw, 9, 0.2)
    frames = some_frames(draw, story)
    sketch = sketch_of(frames)
    others = []
    for _ in range(2):
        more = draw.choice(({}, {"zz": ()}, {name: (draw.randrange(997),) for name in draw.sample(NAMES, 2)}))
        grounds = {}
        for gap in gaps(sketch):
            tree = {**more, **fitting_tree(sketch, gap)}
            grounds[gap] = {name: tree[name] for name in sorted(tree) if said(sketch, gap).get(name, 0) is not None}
        others.append(history_for(draw, frames, sketch, grounds))
    return story, frames, others


class QuestionsTest(unittest.TestCase):
    def test_examples(self):
        run_examples(self, EXAMPLES, {**vars(errors), **vars(spread), **vars(module)})

    def test_is_question(self):
        for value in QUESTION[1]:
            self.assertIs(is_question(value), False, repr(value)[:60])
        for value in (("there", (1, 1), "a"), ("length", (996, 996), "zzzz"), ("cell", (1, 1), "a", 0), ("cell", (1, 1), "a", 995)):
            self.assertIs(is_question(value), True)

    def test_answers_in_histories(self):
        for _ in range(80):
            history, trees = drawn_history(DRAW, 12)
            for question in drawn_questions(sorted(trees), 40):
                answer = answer_in(history, question)
                self.assertEqual(repr(answer), repr(plain_answer(trees[question[1]], question)))
        self.assertEqual([answer_in(STORY, ("there", (2, 1), "a")), answer_in(STORY, ("length", (2, 1), "a")),
                          answer_in(STORY, ("length", (2, 1), "b")), answer_in(STORY, ("cell", (2, 1), "b", 2)),
                          answer_in(STORY, ("cell", (2, 1), "b", 3)), answer_in(STORY, ("cell", (2, 1), "a", 0))],
                         [False, None, 3, 7, None, None])

    def test_wrong_arguments(self):
        unknown = (errors.UnknownName, {"wanted": (3, 1)})
        then = ((unknown, (STORY, ("there", (3, 1), "a")), (0, 1)),)
        wrong.check_wrong(self, answer_in, (STORY, ("there", (1, 1), "a")), (HISTORY, QUESTION), then)
        wrong.check_wrong(self, has_frames, (STORY, FRAMES), (HISTORY, WRONG_FRAMES))
        then = ((unknown, (FRAMES, ("there", (3, 1), "a"), True, ()), (0, 1)),
                (unknown, ((), ("there", (3, 1), "a"), True, ()), (0, 1)))
        wrong.check_wrong(self, takes, (FRAMES, ("there", (1, 1), "a"), True, ()), (WRONG_FRAMES, QUESTION, None, None), then)
        then = ((unknown, (FRAMES, ("there", (3, 1), "a"), ()), (0, 1)),)
        wrong.check_wrong(self, is_unlike, (FRAMES, ("there", (1, 1), "a"), ()), (WRONG_FRAMES, QUESTION, None), then)
        wrong.check_wrong(self, is_clash, (FRAMES, None), (WRONG_FRAMES, None))


class PapersTest(unittest.TestCase):
    def test_papers_that_are_found_tell_the_answer_in_each_history(self):
        counts = {"there": 0, "length": 0, "cell": 0}
        for _ in range(120):
            story, frames, others = agreeing(DRAW)
            told = [versions(history) for history in [story] + others]
            for question in drawn_questions(plain_named(plain_sights(frames)), 25):
                for answer, paper in papers_for(frames, question):
                    self.assertIs(takes(frames, question, answer, paper), True, (question, answer, paper))
                    counts[question[0]] += 1
                    for trees in told:
                        self.assertEqual(plain_answer(trees[question[1]], question), answer)
        self.assertGreater(min(counts.values()), 300)

    def test_papers_bent_are_taken_only_where_they_are_right(self):
        counts = {True: 0, False: 0}
        for _ in range(120):
            story, trees = drawn_story(DRAW, 9, 0.3)
            frames = some_frames(DRAW, story)
            if DRAW.random() < 0.3:
                frames = bent_frames(DRAW, frames)
            named = plain_named(plain_sights(frames))
            for question in drawn_questions(named, 20):
                for answer, paper in papers_for(frames, question)[:6]:
                    for _ in range(4):
                        asked, other, bent = self.bent(named, question, answer, paper)
                        if asked[1] in named:
                            right = plain_takes(frames, asked, other, bent)
                            self.assertIs(takes(frames, asked, other, bent), right, (asked, other, bent))
                            counts[right] += 1
        self.assertGreater(min(counts.values()), 500)

    def bent(self, named, question, answer, paper):
        """A question, an answer and a paper, one of them a little bent."""
        kind = DRAW.randrange(6)
        if kind == 0:
            return question, DRAW.choice((None, True, False, 0, 1, (answer or 0) + 1, 996)), paper
        if kind == 1:
            at = DRAW.choice((1, 2))
            other = DRAW.choice(named) if at == 1 else DRAW.choice(NAMES)
            return question[:at] + (other,) + question[at + 1:], answer, paper
        if len(paper) == 3:
            trail, word, by = paper
            if kind == 2:
                return question, answer, (trail, DRAW.choice(("own", "above", "root", "below")), by)
            if kind == 3:
                return question, answer, (trail, word, DRAW.choice([None] + named))
            return question, answer, (bent_row(named, trail), word, by)
        row, told = paper
        if kind == 2:
            return question, answer, (bent_row(named, row), told)
        if told == ("own",):
            return question, answer, (row, DRAW.choice((("poly", (0,), (answer,) if answer else ()), ("own",))))
        word, places, poly = told
        if kind == 3:
            return question, answer, (row, (word, tuple(sorted(places[1:] + (DRAW.randrange(16),))), poly))
        return question, answer, (row, (word, places, DRAW.choice((poly[:-1], poly + (1,), (answer,) if answer else (), poly))))

    def test_each_word_of_a_paper(self):
        put = (1, 1, None, ("put", "a", (5, 6, 7)), 1)
        saves = (put, (1, 2, (1, 1), ("patch", "a", 1, 1, (8, 9)), 1), (1, 3, (1, 2), ("rename", "a", "b"), 1),
                 (1, 4, (1, 3), ("drop", "b"), 1), (1, 5, (1, 4), ("put", "a", ()), 1))
        frames = all_frames(7, saves)
        for save, name, word, by, answer in (
            ((1, 1), "a", "own", None, 3), ((1, 2), "a", "own", None, 4), ((1, 3), "b", "own", None, 4),
            ((1, 3), "a", "own", None, None), ((1, 4), "b", "own", None, None), ((1, 5), "a", "own", None, 0),
            ((1, 1), "a", "above", (1, 2), 3), ((1, 2), "a", "above", (1, 3), 4), ((1, 2), "b", "above", (1, 3), None),
            ((1, 3), "b", "above", (1, 4), 4), ((1, 1), "b", "root", None, None), ((1, 1), "q", "root", None, None),
        ):
            for other_word, other_by in itertools.product(("own", "above", "root", "Own", None), [None] + [one[:2] for one in saves]):
                paper = (((save),), other_word, other_by)
                right = plain_takes(frames, ("length", save, name), answer, paper)
                self.assertIs(takes(frames, ("length", save, name), answer, paper), right)
                if (other_word, other_by) == (word, by):
                    self.assertIs(right, True)
            there, paper = answer is not None, ((save,), word, by)
            self.assertIs(takes(frames, ("there", save, name), there, paper), True)
            self.assertIs(takes(frames, ("there", save, name), not there, paper), False)
            for at in (0, 2, 3, 4, 995):
                out = answer is None or answer <= at
                self.assertIs(takes(frames, ("cell", save, name, at), None, paper), out)
            for other in (answer, 0, 1, 3, 4, 5, True, False, None, (), "3", [3], 10 ** 99):
                self.assertIs(takes(frames, ("length", save, name), other, paper), repr(other) == repr(answer))
                self.assertIs(takes(frames, ("there", save, name), other, paper), other is there)
        self.assertIs(takes(frames, ("length", (1, 4), "a"), 0, (((1, 4),), "above", (1, 5))), False)
        self.assertIs(takes(frames, ("there", (1, 1), "a"), False, (((1, 1),), "root", None)), False)
        self.assertIs(takes(frames, ("there", (1, 2), "q"), False, (((1, 2),), "root", None)), False)

    def test_trails_that_go_down_and_up(self):
        saves = ((2, 1, (9, 9), ("put", "q", ()), 1), (3, 1, (2, 1), ("put", "r", ()), 1), (4, 1, (9, 9), ("put", "q", ()), 1),
                 (4, 2, (4, 1), ("drop", "a"), 1), (5, 1, (3, 1), ("rename", "r", "s"), 1))
        frames = tuple(body for save in saves for body in frames_of(
            7, save, {"put": 0, "drop": 4, "rename": 0}[save[3][0]]))
        whole = ((3, 1), (2, 1), (9, 9), (4, 1))
        question = ("length", (3, 1), "a")
        for trail, right in (
            (whole, True), (whole[:3] + ((2, 1), (9, 9), (4, 1)), True), (((3, 1), (5, 1)) + whole, True), (whole[1:], False),
            (((3, 1), (9, 9), (4, 1)), False), (whole + ((4, 2),), False), (whole[:3], False), ((), False), (whole[:1], False),
            (((3, 1), (3, 1), (2, 1), (9, 9), (4, 1)), False), (((3, 1), (2, 1), (9, 8), (9, 9), (4, 1)), False),
        ):
            self.assertIs(takes(frames, question, 4, (trail, "above", (4, 2))), right, trail)
            self.assertIs(takes(frames, question, 5, (trail, "above", (4, 2))), False)
            self.assertIs(takes(frames, question, None, (trail, "above", (4, 2))), False)
        self.assertIs(takes(frames, ("there", (9, 9), "a"), True, (((9, 9), (4, 1)), "above", (4, 2))), True)
        self.assertIs(takes(frames, ("there", (3, 1), "q"), True, (whole[:2], "own", None)), True)
        self.assertIs(takes(frames, ("there", (9, 9), "q"), True, (((9, 9), (2, 1)), "own", None)), False)
        self.assertIs(takes(frames, ("there", (3, 1), "r"), False, (((3, 1), (2, 1)), "own", None)), False)
        self.assertIs(takes(frames, ("length", (5, 1), "s"), 0, (((5, 1),), "own", None)), True)

    def test_rows_and_places_of_cells(self):
        saves = ((1, 1, None, ("put", "a", (10, 11, 12, 13, 14)), 1), (1, 2, (1, 1), ("patch", "a", 1, 2, (20, 21, 22)), 1),
                 (1, 3, (1, 2), ("put", "c", (1,)), 1), (1, 4, (1, 3), ("rename", "a", "b"), 1),
                 (1, 5, (1, 4), ("patch", "b", 3, 1, ()), 1))
        frames, trees = all_frames(7, saves), versions(saves)
        names = tuple(save[:2] for save in saves)
        self.assertEqual(trees[(1, 5)]["b"], (10, 20, 21, 13, 14))
        for save in names:
            for name in ("a", "b", "c", "d"):
                for at in range(8):
                    for stop in range(len(names)):
                        row = tuple(reversed(names[stop:names.index(save) + 1]))
                        for cell in (10, 11, 12, 13, 14, 20, 21, 22, 1):
                            question, paper = ("cell", save, name, at), (row, ("own",))
                            right = plain_takes(frames, question, cell, paper)
                            self.assertIs(takes(frames, question, cell, paper), right)
                            if right:
                                self.assertEqual(trees[save][name][at], cell)
                    cells = trees[save].get(name, ())
                    if at < len(cells):
                        rows = [tuple(reversed(names[stop:names.index(save) + 1])) for stop in range(len(names))]
                        self.assertIn(True, [takes(frames, ("cell", save, name, at), cells[at], (row, ("own",))) for row in rows])

    def test_rows_with_each_save(self):
        saves = ((1, 1, None, ("put", "a", (10, 11, 12, 13, 14)), 1), (1, 2, (1, 1), ("put", "b", ()), 1),
                 (1, 3, (1, 2), ("put", "c", ()), 1), (1, 4, (1, 1), ("patch", "a", 1, 0, (9,)), 1))
        frames, question = all_frames(7, saves), ("cell", (1, 3), "a", 0)
        for row, right in ((((1, 3), (1, 2), (1, 1)), True), (((1, 3), (1, 1)), False), (((1, 2), (1, 1)), False),
                           (((1, 3), (1, 2), (1, 2), (1, 1)), False), (((1, 3), (1, 2)), False), (((1, 1),), False)):
            self.assertIs(takes(frames, question, 10, (row, ("own",))), right, row)
        whole = ((1, 3), (1, 2), (1, 1))
        for at in range(4, 8):
            for told in (("own",), ("poly", (0,), ())):
                self.assertIs(takes(frames, question[:3] + (at,), 0, (whole, told)), False)
        self.assertIs(takes(frames, ("cell", (1, 4), "a", 0), 0, (((1, 4),), ("poly", (0,), ()))), False)
        self.assertIs(takes(frames, ("cell", (1, 4), "a", 0), 10, (((1, 4), (1, 1)), ("own",))), True)
        self.assertIs(takes(frames, ("cell", (1, 4), "a", 1), 9, (((1, 4),), ("own",))), True)
        self.assertIs(takes(frames, ("cell", (1, 4), "a", 2), 0, (((1, 4),), ("own",))), False)

    def test_known_places_of_bent_frames(self):
        seven = frames_of(7, (3, 1, None, ("put", "c", tuple(range(1, 8))), 4), 0)
        twin = with_payload(seven[0], 0, (500, 2, 3, 4, 5, 6))
        both = (twin, seven[0], seven[1])
        row = ((3, 1),)
        for cell, right in ((1, True), (500, False)):
            self.assertIs(takes(both, ("cell", (3, 1), "c", 0), cell, (row, ("own",))), right)
        unlike = frames_of(7, (3, 1, None, ("put", "c", (9,)), 16), 0)
        frames = (seven[2],) + unlike[1:2]
        told = plain_sights(frames)[(3, 1)]
        self.assertEqual([told[0], plain_column(told, 0), plain_column(told, 1)], [16, {1: 9, 2: 13}, {0: 0, 1: 0, 2: 995}])
        for cell, at, paper in ((9, 0, ("poly", (1,), (9,))), (13, 0, ("poly", (2,), (13,))), (9, 0, ("own",))):
            question = ("cell", (3, 1), "c", at)
            self.assertIs(takes(frames, question, cell, (row, paper)), plain_takes(frames, question, cell, (row, paper)))
        self.assertIs(takes(frames, ("cell", (3, 1), "c", 0), 9, (row, ("poly", (1,), (9,)))), True)
        longer = frames_of(7, (3, 1, None, ("put", "c", tuple(range(1, 13))), 4), 0)
        frames = (seven[0], longer[1])
        self.assertEqual(plain_column(plain_sights(frames)[(3, 1)], 5), {0: 6, 1: 12})
        for poly, right in (((6, 6), True), ((6, 991), False)):
            self.assertIs(takes(frames, ("cell", (3, 1), "c", 5), 6, (row, ("poly", (0, 1), poly))), right)

    def test_values_that_are_no_paper(self):
        trail, by = ((1, 1),), (2, 1)
        question = ("length", (1, 1), "a")
        self.assertIs(takes(FRAMES, question, 3, (trail, "above", by)), True)
        for paper in wrong.ODD + (
            [trail, "above", by], (list(trail), "above", by), (trail, "above", list(by)), (trail, ["above"], by),
            (trail, "above"), (trail, "above", by, 0), (((True, 1),), "above", by), (((1, True),), "above", by),
            (trail, "above", (2, True)), (trail, "above", None), (trail, "above", (9, 9)), (trail, None, by), (None, "above", by),
            (trail, "own", None), (trail, "root", None), ((None,), "above", by), (((1, 1), None), "above", by),
            (trail, "above", (1, 1)), ((), "above", by), ("a", "above", by), Outline(None), (trail, Outline(None), by),
            ((trail,), "above", by), ([[1, 1]], "above", by), (((2, 2),), "above", by), (trail, "above", "b"),
        ):
            self.assertIs(takes(FRAMES, question, 3, paper), False, repr(paper)[:60])
        row, question = ((1, 2),), ("cell", (1, 2), "a", 1)
        self.assertIs(takes(FRAMES, question, 8, (row, ("own",))), True)
        for paper in wrong.ODD + (
            [row, ("own",)], (list(row), ("own",)), (row, ["own"]), (row, ("Own",)), (row, ("own", 0)), (row,), (row, ("own",), 0),
            (((1, True),), ("own",)), (((True, 2),), ("own",)), (((1, 2), (1, 1)), ("own",)), (((1, 1),), ("own",)), ((), ("own",)), (None, ("own",)),
            (row, None), (row, "own"), (row, ("poly", (1,), [8])), (row, ("poly", [1], (8,))), (row, ("poly", (True,), (8,))),
            (row, ("poly", (1,), (8, 0))), (row, ("poly", (0, 1), (8,))), (row, ("poly", (2,), (8,))), (row, ("poly", (), ())),
            (row, ("poly", (1,), (9,))), (row, ("poly", (1,))), (row, ("poly", None, (8,))), (row, ("poly", (1,), None)),
            (row, ("poly", (1,), (8,), 0)), ([[1, 2]], ("own",)), ((None,), ("own",)), (row, Outline(None)), (row, ()),
        ):
            self.assertIs(takes(FRAMES, question, 8, paper), False, repr(paper)[:60])
        for answer in wrong.ODD + (9, "8", (8,), [8], 8.5, Outline(None)):
            self.assertIs(takes(FRAMES, question, answer, (row, ("own",))), False)
        one = frames_of(7, (1, 1, None, ("put", "a", (1, 0)), 1), 0)
        for answer in (1, True):
            for paper in (("own",), ("poly", (0,), (1,))):
                self.assertIs(takes(one, ("cell", (1, 1), "a", 0), answer, (((1, 1),), paper)), answer is not True)
        for answer in (0, False, None):
            self.assertIs(takes(one, ("cell", (1, 1), "a", 1), answer, (((1, 1),), ("own",))), repr(answer) == "0")
        self.assertIs(takes(one, ("cell", (1, 1), "a", 1), 0, (((1, 1),), ("poly", (0,), ()))), True)

    def test_what_is_not_true(self):
        for paper in ((((1, 1),), "above", (2, 1)), (((1, 1),), "above", (1, 2))):
            self.assertIs(takes(FRAMES, ("length", (1, 1), "a"), 3, paper), True)
        self.assertIs(takes(FRAMES[2:], ("length", (1, 1), "a"), 3, (((1, 1),), "above", (1, 2))), False)
        with self.assertRaises(errors.UnknownName):
            takes(FRAMES[2:], ("length", (1, 2), "a"), 4, ())


def bent_row(named, row):
    """A row of saves with one exchanged, taken out, put in or told twice."""
    at = DRAW.randrange(len(row) + 1)
    return DRAW.choice((row[:at] + (DRAW.choice(named),) + row[at + 1:], row[:at] + row[at + 1:],
                        row[:at] + (DRAW.choice(named),) + row[at:], row[:at] + row[at - 1:], row + row[-2:-1] + row[-1:]))


class ClashTest(unittest.TestCase):
    def plain_is_clash(self, frames, value):
        """Whether a value of one of the told forms is a clash of frames."""
        if value[0] in ("marks", "index"):
            one, other = value[1:]
            if one not in frames or other not in frames or not one < other or one[1:3] != other[1:3]:
                return False
            like = one[:3] + one[4:14] == other[:3] + other[4:14]
            return not like if value[0] == "marks" else like and one[3] == other[3]
        sights = plain_sights(frames)
        if value[0] == "poly":
            save, column, places = value[1:]
            known, k = plain_column(sights[save], column), plain_k(sights[save][2][5])
            if len(places) != k + 1 or not set(places) <= set(known):
                return False
            return not is_poly_through([(place, known[place]) for place in places])
        return plain_is_clash(sketch_of(frames), value)

    def candidates(self, frames):
        """Values that could be clashes of frames."""
        some = sorted(set(frames))
        for one, other in itertools.product(some, some):
            if one[1:3] == other[1:3] or DRAW.random() < 0.1:
                yield ("marks", one, other)
                yield ("index", one, other)
        for save, sight in plain_sights(frames).items():
            k = plain_k(sight[2][5])
            for column in range(6):
                known = sorted(plain_column(sight, column))
                for many in (k, k + 1, k + 2):
                    every = list(itertools.combinations(known, many))
                    for places in DRAW.sample(every, min(8, len(every))):
                        yield ("poly", save, column, places)
        sketch = sketch_of(frames)
        every = list(all_clashes(sketch, 3))
        yield from every if len(every) < 300 else DRAW.sample(every, 300)

    def test_every_clash_is_taken_and_nothing_else(self):
        counts = {word: 0 for word in ("marks", "index", "poly", "ring", "deed", "gap", "none")}
        for at in range(200):
            story, trees = drawn_story(DRAW, 6, 0.3)
            frames = bent_frames(DRAW, some_frames(DRAW, story, 25)) if at % 2 else wild_frames(DRAW)
            if DRAW.random() < 0.5:
                frames = bent_frames(DRAW, frames)
            right = []
            for value in self.candidates(frames):
                wanted = self.plain_is_clash(frames, value)
                self.assertIs(is_clash(frames, value), wanted, value)
                right.extend([value[0]] * wanted)
            found = clash(frames)
            if found is None:
                self.assertEqual(right, [])
                counts["none"] += 1
            else:
                self.assertTrue(self.plain_is_clash(frames, found))
            for word in set(right):
                counts[word] += 1
        self.assertGreater(min(counts.values()), 2, counts)
        self.assertGreater(counts["none"], 20)

    def test_values_that_are_no_clash(self):
        near, drop = frames_of(7, NEXT, 3), frames_of(7, (1, 2, (1, 1), ("drop", "a"), 2), 3)
        twin = with_payload(near[0], 0, (8, 8, 0, 0, 0, 0))
        frames = near + drop[:1] + (twin, twin)
        right = [("marks", near[0], drop[0]), ("index", twin, near[0]), ("poly", (1, 2), 1, (0, 1))]
        self.assertEqual([is_clash(frames, value) for value in right], [True] * 3)
        self.assertIs(is_clash(frames, ("marks", twin, drop[0])), True)
        for value in wrong.ODD + (
            ("marks", drop[0], near[0]), ("marks", near[0], near[1]), ("index", near[0], twin), ("index", near[0], near[0]),
            ("marks", near[0], drop[1]), ("marks", near[0]), right[0] + (0,), list(right[0]), ("marks", list(near[0]), drop[0]),
            ("marks", (True,) + near[0][1:], drop[0]), ("index", near[0], near[1]), ("index", twin, drop[0]), ("index", None, twin),
            ("poly", (1, 2), 1, [0, 1]), ("poly", (1, 2), 1, (1, 0)), ("poly", (1, 2), True, (0, 1)), ("poly", (1, True), 1, (0, 1)),
            ("poly", (1, 2), 6, (0, 1)), ("poly", (1, 2), 2, (0, 1)), ("poly", (1, 2), 1, (0,)), ("poly", (1, 2), 1, (0, 1, 2)),
            ("poly", (1, 2), 1, (False, 1)), ("poly", (1, 1), 1, (0, 1)), ("poly", (9, 9), 1, (0, 1)), ("poly", [1, 2], 1, (0, 1)),
            ("poly", (1, 2), 1), right[2] + (0,), ("Poly",) + right[2][1:], ("poly", (1, 2), 1, None), ("poly", (1, 2), -5, (0, 1)),
            ("poly", None, 1, (0, 1)), Outline(None), ("poly", (1, 2), 1, (0, 2)), ("marks", None, None), (right[0],),
            ("ring", ((1, 1), (1, 2))), ("deed", (1, 2), ("gone", "a")), ("gap", (1, 1), "a", (1, 2), (1, 2)), ("marks", 1, 2),
            ("marks", near[0][:1] + (True,) + near[0][2:], drop[0]), ("marks", near[0], drop[0][:1] + (True,) + drop[0][2:]),
            ("index", with_payload(near[0], 0, (0,) * 6), near[0]), ("poly", (1, 2), -1, (0, 1)),
            ("marks", with_payload(near[0], 0, (0,) * 6), drop[0]),
        ):
            self.assertIs(is_clash(frames, value), False, repr(value)[:60])

    def test_clashes_of_the_sketch(self):
        ring = frames_of(7, (1, 5, (2, 7), ("put", "a", ()), 1), 0) + frames_of(7, (2, 3, (1, 8), ("put", "a", ()), 1), 0)
        self.assertIs(is_clash(ring, ("ring", ((1, 5), (1, 8), (2, 3), (2, 7)))), True)
        self.assertIs(is_clash(ring, ("ring", ((1, 8), (2, 3), (2, 7), (1, 5)))), True)
        self.assertIs(is_clash(ring, ("ring", ((1, 5), (2, 3)))), False)
        self.assertIs(is_clash(ring[:1], ("ring", ((1, 5), (1, 8), (2, 3), (2, 7)))), False)
        deed = frames_of(7, FIRST, 0) + frames_of(7, (2, 1, (1, 1), ("drop", "a"), 1), 4)
        self.assertIs(is_clash(deed, ("deed", (2, 1), ("length", "a"))), True)
        self.assertIs(is_clash(deed, ("deed", (2, 1), ("gone", "a"))), False)


def is_poly_through(points):
    """Whether the last point is on the poly of least degree through the others."""
    *some, (place, number) = points
    total = 0
    for at, value in some:
        for other, _ in some:
            if other != at:
                value = value * (place - other) * pow(at - other, -1, 997) % 997
        total += value
    return total % 997 == number


class HistoriesTest(unittest.TestCase):
    def test_has_frames(self):
        for _ in range(60):
            story, trees = drawn_story(DRAW, 8)
            frames = some_frames(DRAW, story, 100)
            every = set(all_frames(ARCHIVE, story))
            self.assertIs(has_frames(story, frames), True)
            bent = bent_frames(DRAW, frames)
            self.assertIs(has_frames(story, bent), set(bent) <= every)
            for end in range(len(story)):
                some = set(all_frames(ARCHIVE, story[:end]))
                self.assertIs(has_frames(story[:end], frames), set(frames) <= some)
        self.assertEqual([has_frames((), ()), has_frames((), FRAMES), has_frames(STORY, ())], [True, False, True])

    def test_frames_of_whatever_archive(self):
        for archive in (1, 9, 996):
            self.assertIs(has_frames(STORY, all_frames(archive, STORY)), True)
        self.assertIs(has_frames(STORY, (with_payload(FRAMES[0], 0, (8, 8, 0, 0, 0, 0)),)), False)

    def test_unlike_histories(self):
        counts = {True: 0, False: 0}
        for _ in range(120):
            story, frames, others = agreeing(DRAW)
            pairs = list(itertools.product([story] + others, repeat=2))
            told = {history: versions(history) for history in [story] + others}
            for question in drawn_questions(plain_named(plain_sights(frames)), 10):
                for one, other in pairs:
                    right = plain_answer(told[one][question[1]], question) != plain_answer(told[other][question[1]], question)
                    self.assertIs(is_unlike(frames, question, (one, other)), right)
                    counts[right] += 1
        self.assertGreater(min(counts.values()), 100)

    def test_values_that_are_no_unlike_histories(self):
        question = ("cell", (1, 2), "a", 0)
        other = ((1, 1, None, ("put", "a", (4, 6, 7)), 2), NEXT, APART)
        self.assertIs(is_unlike(FRAMES, question, (STORY, other)), True)
        for value in wrong.ODD + (
            [STORY, other], (STORY,), (STORY, other, STORY), (STORY, STORY), (list(STORY), other), (STORY, other[:2]),
            (STORY[:1], other[:1]), (STORY, None), (STORY, other[1:]), ((), ()), (STORY, other + ((1, 3, (1, 1), ("drop", "b"), 1),)),
            (STORY, ((1, 1, None, ("put", "a", (True, 6, 7)), 2), NEXT, APART)), Outline(None), {0: STORY, 1: other},
            (STORY, ((1, 1, None, ("put", "a", (4, 6, 7)), 2), NEXT[:3] + (("patch", "a", 1, 1, (8, 8)), 2), APART)),
        ):
            self.assertIs(is_unlike(FRAMES, question, value), False, repr(value)[:60])
        self.assertIs(is_unlike(FRAMES, ("cell", (1, 2), "a", 1), (STORY, other)), False)
        self.assertIs(is_unlike(FRAMES, ("length", (1, 1), "a"), (STORY, other)), False)
        self.assertIs(is_unlike(FRAMES, ("there", (2, 1), "c"), (
            STORY, ((3, 1, None, ("put", "c", ()), 1), (1, 1, (3, 1), ("put", "a", (5, 6, 7)), 2), NEXT, APART))), True)


if __name__ == "__main__":
    unittest.main()
