"""Ways, grounds and outlines: each cell of a version stands for just one cell below or of a save."""

import random
import unittest

from stillread import errors
from stillread.read import marks, pieces
from stillread.read.marks import is_row, row_length
from stillread.read.pieces import Outline, ground_of, outline_of, way_of
from tests import wrong
from tests.examples import run_examples
from tests.sketches import (
    cells_for, drawn_ground, drawn_mark, drawn_sketch, plain_gaps, plain_step, plain_way,
)
from tests.test_marks import WRONG_MARKS

EXAMPLES = """
>>> PATCH, MOVED = ("patch", "a", 1, 1, 2, 3), ("rename", "a", "b", 4)
>>> SKETCH = {(1, 2): ((2, 1), PATCH), (1, 3): ((1, 2), MOVED), (3, 1): ((2, 1), ("drop", "c", 5)), (4, 1): (None, ("put", "x", 2))}
>>> [way_of(SKETCH, (1, 3)), ground_of(SKETCH, (1, 3)), ground_of(SKETCH, (2, 1)), ground_of(SKETCH, (4, 1))]
[((1, 2), (1, 3)), (2, 1), (2, 1), None]
>>> OUTLINE = outline_of(SKETCH, (1, 3))
>>> OUTLINE.entries
{'b': ((('below', 'a'), 0, 1), (('new', (1, 2)), 0, 2), (('below', 'a'), 2, 1))}
>>> [OUTLINE.gone, OUTLINE.asks, row_length(OUTLINE.entries["b"]), origin(OUTLINE.entries["b"], 3)]
[('a',), {'a': 3, 'b': None}, 4, (('below', 'a'), 2)]
>>> OUTLINE.filled({"a": (7, 8, 9), "d": (1,)}, {(1, 2): (5, 6)})
{'b': (7, 5, 6, 9), 'd': (1,)}
>>> [mark_of({"a": (7, 8, 9)}, ("patch", "a", 1, 1, (5, 6))), outline_of(SKETCH, (4, 1)).entries, OUTLINE.does_fit({"a": (7, 8)})]
[('patch', 'a', 1, 1, 2, 3), {'x': ((('new', (4, 1)), 0, 2),)}, False]
>>> Outline(None).behind((1, 1), ("drop", "a", 2))
raises Refused(('gone', 'a'))
"""
DRAW = random.Random(121)
GAP, SAVE = (9, 9), (1, 1)
SKETCH = {(1, 2): ((2, 1), ("patch", "a", 1, 1, 2, 3)), (1, 3): ((1, 2), ("rename", "a", "b", 4)),
          (3, 1): ((2, 1), ("drop", "c", 5)), (4, 1): (None, ("put", "x", 2))}
ROUND = {(1, 1): ((2, 1), ("put", "a", 1)), (2, 1): ((1, 1), ("put", "a", 1)), (3, 1): ((1, 1), ("drop", "a", 1)),
         (4, 1): ((5, 1), ("drop", "a", 1))}
WRONG_SKETCH = (errors.InvalidSketch, [value for value in wrong.ODD if value != {}] + [
    {(1, 1): ((1, 1), ("put", "a", 1))}, {(1, 1): (None, ("put", "a", 49))}, {(True, 1): (None, ("put", "a", 1))},
    {(1, 1): [None, ("put", "a", 1)]}, {(1, 1): (None, ("rename", "a", "a", 1))}, list(SKETCH), Outline(None)])
WRONG_SAVE = (errors.InvalidSave, wrong.odd_but(wrong.is_save_name) + [
    (0, 1), (1, True), [1, 1], (1, 997), (1, 1, 1), Outline(None)])


def followed(outline, *steps):
    for save, mark in steps:
        outline = outline.behind(save, mark)
    return outline


class WaysTest(unittest.TestCase):
    def test_examples(self):
        run_examples(self, EXAMPLES, {**vars(errors), **vars(marks), **vars(pieces)})

    def test_drawn_ways(self):
        rounds = 0
        for _ in range(400):
            sketch = drawn_sketch(DRAW, 12, 0.9)
            for save in list(sketch) + plain_gaps(sketch):
                told = plain_way(sketch, save)
                if told is None:
                    rounds += 1
                    for function in (way_of, ground_of, outline_of):
                        wrong.check_raises(self, (errors.Refused, {"reason": ("round", save)}), function, (sketch, save))
                else:
                    self.assertEqual((way_of(sketch, save), ground_of(sketch, save)), told)
        self.assertGreater(rounds, 10)

    def test_ways_that_go_round(self):
        for save in ((1, 1), (2, 1), (3, 1)):
            for function in (way_of, ground_of, outline_of):
                wrong.check_raises(self, (errors.Refused, {"reason": ("round", save)}), function, (ROUND, save))
        self.assertEqual([way_of(ROUND, (4, 1)), ground_of(ROUND, (4, 1)), way_of(ROUND, (5, 1))],
                         [((4, 1),), (5, 1), ()])

    def test_wrong_arguments(self):
        then = (((errors.UnknownName, {"wanted": (7, 7)}), (SKETCH, (7, 7)), (0, 1)),
                ((errors.UnknownName, {"wanted": (7, 7)}), (ROUND, (7, 7)), (0, 1)),
                ((errors.Refused, {"reason": ("round", (1, 1))}), (ROUND, (1, 1)), (0, 1)))
        for function in (way_of, ground_of):
            wrong.check_wrong(self, function, (SKETCH, (1, 3)), (WRONG_SKETCH, WRONG_SAVE), then)
        sketch = {**SKETCH, (1, 4): ((1, 3), ("drop", "a", 3)), (1, 5): ((1, 4), ("drop", "q", 1))}
        then = then + (((errors.Refused, {"reason": ("deed", (1, 4), ("gone", "a"))}), (sketch, (1, 5)), (0, 1)),
                       ((errors.Refused, {"reason": ("deed", (1, 4), ("gone", "a"))}), (sketch, (1, 4)), (0, 1)))
        wrong.check_wrong(self, outline_of, (SKETCH, (1, 3)), (WRONG_SKETCH, WRONG_SAVE), then)
        wrong.check_raises(self, (errors.UnknownName, {"wanted": (1, 1)}), way_of, ({}, (1, 1)))


class OutlinesTest(unittest.TestCase):
    def test_a_ground_and_nothing_else(self):
        for ground in (None, GAP):
            outline = Outline(ground)
            self.assertEqual([outline.ground, outline.entries, outline.asks, outline.gone, len(outline)],
                             [ground, {}, {}, (), 0])
        self.assertEqual(Outline(None).filled({}, {}), {})
        self.assertEqual(Outline(GAP).filled({"b": (1,), "a": ()}, {}), {"a": (), "b": (1,)})
        for ground in [value for value in WRONG_SAVE[1] if value is not None]:
            wrong.check_raises(self, errors.InvalidSave, Outline, (ground,))

    def test_deeds_of_a_way_are_the_outline_filled_in(self):
        counts = {True: 0, False: 0}
        for _ in range(1500):
            ground = DRAW.choice((None, GAP, GAP))
            start = {} if ground is None else drawn_ground(DRAW)
            other = drawn_ground(DRAW) if ground and DRAW.random() < 0.3 else start
            outline, lived, done = Outline(ground), start, other
            cells = {}
            for number in range(1, DRAW.randint(2, 7)):
                mark = drawn_mark(DRAW, lived)
                cells[(1, number)] = cells_for(DRAW, mark)
                if outline.reason_against(mark) is not None:
                    wrong.check_raises(self, (errors.Refused, {"reason": outline.reason_against(mark)}), outline.behind,
                                       ((1, number), mark))
                    done = None
                    break
                outline = outline.behind((1, number), mark)
                behind = plain_step(lived, mark, cells[(1, number)])
                lived = lived if behind is None else behind
                done = None if done is None else plain_step(done, mark, cells[(1, number)])
            else:
                counts[done is not None] += 1
                self.check_filled(outline, other, cells, done)
                continue
            # A mark that cannot follow can be done on no tree behind the others.
            for _ in range(20):
                self.assertIsNone(self.done_all(drawn_ground(DRAW) if ground else {}, outline, cells, mark, number))
        self.assertGreater(min(counts.values()), 100)

    def done_all(self, tree, outline, cells, mark, number):
        """The tree behind a last mark on an outline filled in, `None` if this cannot be."""
        if not outline.does_fit(tree):
            return None
        return plain_step(outline.filled(tree, cells), mark, cells[(1, number)])

    def check_filled(self, outline, tree, cells, done):
        fits = outline.does_fit(tree)
        self.assertIs(fits, done is not None)
        for row in outline.entries.values():
            self.assertIs(is_row(row), True)
        if fits:
            self.assertEqual(repr(outline.filled(tree, cells)), repr(done))
        else:
            wrong.check_raises(self, (errors.Refused, {"reason": ("fit",)}), outline.filled, (tree, cells))

    def test_asks_of_a_gap(self):
        outline = followed(Outline(GAP), ((1, 1), ("rename", "a", "b", 3)), ((1, 2), ("drop", "c", 0)),
                           ((1, 3), ("put", "d", 2)), ((1, 4), ("patch", "d", 1, 0, 1, 2)))
        self.assertEqual(repr(outline.asks), repr({"a": 3, "b": None, "c": 0}))
        self.assertEqual(outline.gone, ("a", "c"))
        self.assertEqual(repr(outline.entries), repr({
            "b": ((("below", "a"), 0, 3),),
            "d": ((("new", (1, 3)), 0, 1), (("new", (1, 4)), 0, 1), (("new", (1, 3)), 1, 1))}))
        for tree, right in (({"a": (1, 2, 3), "c": ()}, True), ({"a": (1, 2, 3), "c": (), "d": (5,), "e": ()}, True),
                            ({"a": (1, 2), "c": ()}, False), ({"a": (1, 2, 3)}, False),
                            ({"a": (1, 2, 3), "c": (0,)}, False), ({"a": (1, 2, 3), "c": (), "b": ()}, False), ({}, False)):
            self.assertIs(outline.does_fit(tree), right)

    def test_entries_of_length_0_below(self):
        outline = Outline(GAP).behind(SAVE, ("patch", "a", 0, 0, 2, 0))
        self.assertEqual([outline.asks, outline.entries], [{"a": 0}, {"a": ((("new", SAVE), 0, 2),)}])
        outline = Outline(GAP).behind(SAVE, ("rename", "a", "b", 0))
        self.assertEqual([outline.entries, outline.gone, outline.asks], [{"b": ()}, ("a",), {"a": 0, "b": None}])
        self.assertEqual(outline.filled({"a": ()}, {}), {"b": ()})
        self.assertEqual(Outline(GAP).behind(SAVE, ("put", "a", 0)).entries, {"a": ()})

    def test_the_ground_none(self):
        outline = followed(Outline(None), ((1, 1), ("put", "a", 2)), ((1, 2), ("rename", "a", "b", 2)))
        self.assertEqual([outline.asks, outline.gone, outline.entries],
                         [{}, ("a",), {"b": ((("new", (1, 1)), 0, 2),)}])
        self.assertEqual(outline.filled({}, {(1, 1): (5, 6)}), {"b": (5, 6)})
        self.assertEqual([outline.does_fit({}), outline.does_fit({"z": ()})], [True, False])
        again = outline.behind((1, 3), ("put", "a", 0))
        self.assertEqual([again.gone, len(again)], [(), 2])

    def test_names_fresh_gone_and_asked_for(self):
        gone = Outline(GAP).behind(SAVE, ("drop", "a", 3))
        for mark, reason in (
            (("drop", "a", 3), ("gone", "a")), (("rename", "a", "b", 3), ("gone", "a")),
            (("patch", "a", 0, 0, 1, 3), ("gone", "a")), (("put", "a", 3), None), (("rename", "b", "a", 3), None),
        ):
            self.check_reason(gone, mark, reason)
        there = Outline(GAP).behind(SAVE, ("patch", "a", 0, 1, 0, 3))
        for mark, reason in (
            (("drop", "a", 3), ("length", "a")), (("drop", "a", 2), None), (("rename", "b", "a", 1), ("there", "a")),
            (("rename", "a", "b", 3), ("length", "a")), (("rename", "a", "b", 2), None), (("put", "a", 40), None),
            (("patch", "a", 0, 0, 0, 1), ("length", "a")),
        ):
            self.check_reason(there, mark, reason)
        moved = Outline(GAP).behind(SAVE, ("rename", "a", "b", 3))
        for mark, reason in (
            (("rename", "b", "a", 3), None), (("rename", "c", "b", 3), ("there", "b")), (("drop", "b", 4), ("length", "b")),
            (("rename", "a", "b", 3), ("gone", "a")), (("rename", "b", "c", 2), ("length", "b")),
        ):
            self.check_reason(moved, mark, reason)
        none = Outline(None)
        for mark, reason in ((("drop", "a", 0), ("gone", "a")), (("rename", "a", "b", 0), ("gone", "a")),
                             (("patch", "a", 0, 0, 0, 0), ("gone", "a")), (("put", "a", 0), None)):
            self.check_reason(none, mark, reason)
        back = moved.behind((1, 2), ("rename", "b", "a", 3))
        self.assertEqual([back.gone, back.asks, list(back.entries)], [("b",), {"a": 3, "b": None}, ["a"]])

    def check_reason(self, outline, mark, reason):
        if reason is None:
            self.assertIsInstance(outline.behind((1, 2), mark), Outline)
        else:
            wrong.check_raises(self, (errors.Refused, {"reason": reason}), outline.behind, ((1, 2), mark))

    def test_patched_rows(self):
        outline = followed(Outline(GAP), ((1, 1), ("patch", "a", 2, 3, 2, 8)), ((1, 2), ("patch", "a", 1, 2, 0, 7)),
                           ((1, 3), ("patch", "a", 5, 0, 1, 5)), ((1, 4), ("patch", "a", 1, 1, 0, 6)))
        below = ("below", "a")
        self.assertEqual(outline.entries["a"], ((below, 0, 1), (below, 5, 3), (("new", (1, 3)), 0, 1)))
        self.assertEqual(row_length(outline.entries["a"]), 5)
        whole = Outline(GAP).behind((1, 1), ("patch", "a", 2, 0, 0, 8))
        self.assertEqual(whole.entries["a"], ((below, 0, 8),))

    def test_each_piece_is_changed_where_its_source_is(self):
        for _ in range(150):
            tree, outline, lived, cells = drawn_ground(DRAW), Outline(GAP), None, {}
            lived = tree
            for number in range(1, 6):
                mark = drawn_mark(DRAW, lived)
                told = cells_for(DRAW, mark)
                if plain_step(lived, mark, told) is not None:
                    cells[(1, number)], lived = told, plain_step(lived, mark, told)
                    outline = outline.behind((1, number), mark)
            filled = outline.filled(tree, cells)
            self.assertEqual(filled, lived)
            for name, row in outline.entries.items():
                for at in range(row_length(row)):
                    (word, source), index = marks.origin(row, at)
                    self.assertEqual(filled[name][at], (tree if word == "below" else cells)[source][index])

    def test_outlines_never_change_and_share_nothing(self):
        first = Outline(GAP).behind(SAVE, ("patch", "a", 1, 1, 1, 3))
        told = repr([first.entries, first.asks, first.gone])
        first.behind((1, 2), ("rename", "a", "b", 3))
        first.entries["z"], first.asks["z"] = (), None
        first.entries.clear()
        first.filled({"a": (1, 2, 3)}, {SAVE: (4,)})["a"] = ()
        self.assertEqual(repr([first.entries, first.asks, first.gone]), told)
        self.assertEqual(len(first), 1)
        with self.assertRaises(TypeError):
            iter(first)

    def test_equal_outlines(self):
        one = followed(Outline(GAP), (SAVE, ("put", "a", 2)), ((1, 2), ("put", "b", 1)))
        same = followed(Outline(GAP), ((1, 2), ("put", "b", 1)), (SAVE, ("put", "a", 2)))
        self.assertTrue(one == same and not one != same)
        self.assertEqual(repr(one.entries), repr(same.entries))
        for other in (followed(Outline(None), (SAVE, ("put", "a", 2)), ((1, 2), ("put", "b", 1))), Outline(GAP),
                      one.behind((1, 3), ("drop", "c", 0)), followed(Outline(GAP), (SAVE, ("put", "a", 2))),
                      followed(Outline(GAP), (SAVE, ("put", "a", 2)), (SAVE, ("put", "b", 1)))):
            self.assertTrue(one != other and not one == other)
        for value in wrong.ODD + (one.entries, (one,), [one]):
            self.assertIs(one == value, False)
            self.assertIs(one != value, True)
        asked = Outline(GAP).behind(SAVE, ("drop", "a", 2))
        self.assertFalse(asked == Outline(GAP).behind(SAVE, ("drop", "a", 3)))
        self.assertTrue(asked == Outline(GAP).behind((2, 2), ("drop", "a", 2)))
        self.assertFalse(Outline(None) == Outline(GAP))
        dropped = followed(Outline(None), (SAVE, ("put", "a", 2)), ((1, 2), ("drop", "a", 2)))
        self.assertFalse(dropped == Outline(None))
        self.assertEqual([dropped.entries, dropped.asks, dropped.gone], [{}, {}, ("a",)])

    def test_drawn_outlines_of_sketches(self):
        for _ in range(150):
            sketch = drawn_sketch(DRAW, 10)
            for save in sketch:
                told = plain_way(sketch, save)
                if told is None:
                    continue
                outline, bad = Outline(told[1]), None
                for one in told[0]:
                    reason = outline.reason_against(sketch[one][1])
                    if reason is not None:
                        bad = ("deed", one, reason)
                        break
                    outline = outline.behind(one, sketch[one][1])
                if bad is None:
                    self.assertTrue(outline_of(sketch, save) == outline)
                else:
                    wrong.check_raises(self, (errors.Refused, {"reason": bad}), outline_of, (sketch, save))
            for gap in plain_gaps(sketch):
                self.assertTrue(outline_of(sketch, gap) == Outline(gap))

    def test_what_is_not_true(self):
        outline = Outline(GAP).behind(SAVE, ("put", "a", 2))
        self.assertEqual(outline.entries["a"], ((("new", SAVE), 0, 2),))
        self.assertEqual(outline.filled({"b": (1,)}, {SAVE: (1, 2)})["b"], (1,))
        dropped = outline.behind((1, 2), ("drop", "b", 2))
        self.assertEqual(dropped.entries, outline.entries)
        self.assertNotEqual(dropped.asks, outline.asks)

    def test_wrong_arguments(self):
        outline = Outline(GAP).behind((1, 1), ("patch", "a", 1, 1, 2, 3)).behind((2, 2), ("put", "b", 1))
        mark = (errors.InvalidDeed, list(WRONG_MARKS))
        then = (((errors.Refused, {"reason": ("length", "a")}), ((1, 2), ("drop", "a", 3)), (0, 1)),)
        wrong.check_wrong(self, outline.behind, ((1, 2), ("drop", "a", 4)), (WRONG_SAVE, mark), then)

        def is_tree(value):
            return isinstance(value, dict) and all(
                wrong.is_name(name) and wrong.is_cells(cells, 996) for name, cells in value.items())
        tree = (errors.InvalidTree, wrong.odd_but(is_tree) + [{"a": (1,) * 997}, outline])
        wrong.check_wrong(self, outline.does_fit, ({"a": (1, 2, 3)},), (tree,))
        cells = (errors.InvalidCells, [value for value in wrong.ODD if value != {}] + [
            {(1, 1): [1, 2]}, {(1, 1): (1, True)}, {(0, 1): (1, 2)}, {(True, 1): (1, 2)}, {"a": (1, 2)}, {None: ()},
            {(1, 1): (1, 2), (2, 2): None}, [((1, 1), (1, 2))], {(1, 1): (997, 1)}])
        right = {(1, 1): (1, 2), (2, 2): (5,), (7, 7): ()}
        then = (((errors.Refused, {"reason": ("fit",)}), ({"a": (1, 2)}, {}), (0, 1)),
                ((errors.Refused, {"reason": ("cells", (1, 1))}), ({"a": (1, 2, 3)}, {}), (0, 1)),
                ((errors.Refused, {"reason": ("cells", (1, 1))}), ({"a": (1, 2, 3)}, {(1, 1): (1,), (2, 2): ()}), (0, 1)),
                ((errors.Refused, {"reason": ("cells", (2, 2))}), ({"a": (1, 2, 3)}, {(1, 1): (1, 2)}), (0, 1)))
        wrong.check_wrong(self, outline.filled, ({"a": (1, 2, 3)}, right), (tree, cells), then)
        more = {(1, 1): (1, 2, 3), (2, 2): (5, 6)}
        self.assertEqual(outline.filled({"a": (7, 8, 9)}, more), {"a": (7, 1, 2, 9), "b": (5,)})
        gone = outline.behind((1, 2), ("drop", "a", 4))
        self.assertEqual(gone.filled({"a": (1, 2, 3), "c": ()}, {(2, 2): (5,)}), {"b": (5,), "c": ()})


if __name__ == "__main__":
    unittest.main()
