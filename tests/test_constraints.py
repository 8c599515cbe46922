"""What is said of gaps, clashes of sketches and of frames."""

import random
import unittest

from stillread import errors
from stillread.lots import spread
from stillread.lots.spread import all_frames, frames_of, with_payload
from stillread.paper.checker import has_frames, is_clash
from stillread.plain.histories import is_history, versions
from stillread.read import constraints as module
from stillread.read.constraints import (
    above, clash, clash_of, fitting_tree, gaps, is_clash_of, is_fitting, said, says, sights, sketch_of,
)
from stillread.read.pieces import Outline
from tests import wrong
from tests.examples import run_examples
from tests.frames import ARCHIVE, bent_frames, drawn_story, history_for, plain_sights, some_frames
from tests.sketches import (
    all_clashes, drawn_ground, drawn_sketch, plain_gaps, plain_is_clash, plain_says, plain_told, plain_trees, plain_way,
)
from tests.test_histories import APART, FIRST, NEXT, STORY_ROWS
from tests.test_pieces import ROUND, WRONG_SAVE, WRONG_SKETCH
from tests.test_spread import ODD_BODIES

EXAMPLES = STORY_ROWS + """
>>> SKETCH = {(1, 2): ((2, 1), ("patch", "a", 1, 1, 2, 3)), (1, 3): ((1, 2), ("rename", "a", "b", 4)), (3, 1): ((2, 1), ("drop", "c", 5))}
>>> [gaps(SKETCH), above(SKETCH, (2, 1)), says(SKETCH, (1, 3)), said(SKETCH, (2, 1))]
[((2, 1),), ((1, 2), (1, 3), (3, 1)), {'b': None}, {'a': 3, 'b': None, 'c': 5}]
>>> [clash_of(SKETCH), is_fitting(SKETCH, (2, 1), {"a": (0, 0, 0), "c": (1,) * 5, "d": ()}), is_fitting(SKETCH, (2, 1), {"a": (0, 0, 0)})]
[None, True, False]
>>> MORE, LESS = {**SKETCH, (5, 1): ((2, 1), ("drop", "b", 2))}, {**SKETCH, (1, 4): ((1, 3), ("drop", "a", 4))}
>>> [clash_of(MORE), clash_of(LESS), is_clash_of(MORE, ("gap", (2, 1), "b", (5, 1), (1, 3)))]
[('gap', (2, 1), 'b', (1, 3), (5, 1)), ('deed', (1, 4), ('gone', 'a')), False]
>>> ROUND = {(1, 1): ((2, 2), ("put", "a", 1)), (2, 1): ((1, 1), ("put", "a", 1))}
>>> [gaps(ROUND), clash_of(ROUND)[0], is_clash_of(ROUND, ("ring", ((1, 1), (2, 1), (2, 2)))), is_clash_of(ROUND, ("ring", ((2, 1), (1, 1))))]
[((2, 2),), 'ring', True, False]
>>> NEAR = frames_of(7, NEXT, 3)
>>> [sketch_of(NEAR), sights(NEAR[1:]), clash(NEAR), clash(NEAR + (with_payload(NEAR[1], 0, (0,) * 6),))[0]]
[{(1, 2): ((1, 1), ('patch', 'a', 1, 1, 2, 3))}, {(1, 2): (2, (1, 1), ('patch', 'a', 1, 1, 2, 3), {1: (8, 9, 0, 0, 0, 0)})}, None, 'index']
>>> said(MORE, (2, 1))
raises Refused(('gap', (2, 1), 'b', (1, 3), (5, 1)))
"""
DRAW = random.Random(130)
GAP = (2, 1)
SKETCH = {(1, 2): (GAP, ("patch", "a", 1, 1, 2, 3)), (1, 3): ((1, 2), ("rename", "a", "b", 4)),
          (3, 1): (GAP, ("drop", "c", 5)), (4, 1): (None, ("put", "x", 2))}
MORE, LESS = {**SKETCH, (5, 1): (GAP, ("drop", "b", 2))}, {**SKETCH, (1, 4): ((1, 3), ("drop", "a", 4))}
RING = ("ring", ((1, 1), (2, 1), (2, 2)))
BACK = {(1, 1): ((2, 2), ("put", "a", 1)), (2, 1): ((1, 1), ("put", "a", 1))}
FRAMES = (errors.InvalidFrames, wrong.odd_but(lambda value: value == ()) + [
    list(frames_of(9, NEXT, 3)), frames_of(9, NEXT, 3) + frames_of(8, APART, 3), frames_of(9, FIRST, 0)[:1] * 492,
    frames_of(9, FIRST, 0) + (None,), frames_of(9, FIRST, 0)[0]] + [(body,) for body in ODD_BODIES[:-1]])


class SaidTest(unittest.TestCase):
    def test_examples(self):
        run_examples(self, EXAMPLES, {**vars(errors), **vars(spread), **vars(module)})

    def test_gaps_and_what_stands_above(self):
        for _ in range(200):
            sketch = drawn_sketch(DRAW, 12, 0.5)
            self.assertEqual(gaps(sketch), tuple(plain_gaps(sketch)))
            for gap in gaps(sketch):
                ways = {save: plain_way(sketch, save) for save in sketch}
                wanted = tuple(save for save in sorted(sketch) if ways[save] is not None and ways[save][1] == gap)
                self.assertEqual(above(sketch, gap), wanted)
        self.assertEqual([gaps({}), gaps(SKETCH), above(SKETCH, GAP)], [(), (GAP,), ((1, 2), (1, 3), (3, 1))])

    def test_what_saves_say(self):
        for _ in range(200):
            sketch = drawn_sketch(DRAW, 10, 0.3)
            for save in sketch:
                told, way = plain_told(sketch, save), plain_way(sketch, save)
                if way is None:
                    wrong.check_raises(self, (errors.Refused, {"reason": ("round", save)}), says, (sketch, save))
                elif told is None:
                    first = [one for one in way[0] if plain_told(sketch, one) is None][0]
                    with self.assertRaises(errors.Refused) as caught:
                        says(sketch, save)
                    self.assertEqual(caught.exception.reason[:2], ("deed", first))
                else:
                    self.assertEqual(repr(says(sketch, save)), repr(plain_says(sketch, save)))
                    if way[1] is None:
                        self.assertEqual(says(sketch, save), {})

    def test_a_name_is_said_of_once_along_a_way(self):
        sketch = {(1, 1): (GAP, ("put", "a", 3)), (1, 2): ((1, 1), ("drop", "a", 3)), (1, 3): ((1, 2), ("rename", "b", "a", 2)),
                  (3, 1): (GAP, ("rename", "b", "c", 2)), (3, 2): ((3, 1), ("drop", "c", 2))}
        self.assertEqual([says(sketch, save) for save in sorted(sketch)],
                         [{}, {}, {"b": 2}, {"b": 2, "c": None}, {}])
        self.assertEqual(repr(said(sketch, GAP)), repr({"b": 2, "c": None}))

    def test_all_that_is_said_of_a_gap(self):
        told = 0
        for _ in range(300):
            sketch = drawn_sketch(DRAW, 10)
            found = clash_of(sketch)
            for gap in gaps(sketch):
                if found is not None:
                    for function in (said, fitting_tree):
                        with self.assertRaises(errors.Refused) as caught:
                            function(sketch, gap)
                        self.assertTrue(plain_is_clash(sketch, caught.exception.reason))
                    continue
                wanted = {}
                for save in above(sketch, gap):
                    wanted.update(plain_says(sketch, save))
                self.assertEqual(repr(said(sketch, gap)), repr({name: wanted[name] for name in sorted(wanted)}))
                tree = fitting_tree(sketch, gap)
                self.assertIs(is_fitting(sketch, gap, tree), True)
                told += len(wanted) > 1
        self.assertGreater(told, 40)

    def test_just_the_fitting_trees_can_be_below(self):
        counts = {True: 0, False: 0}
        for _ in range(300):
            sketch = drawn_sketch(DRAW, 8, DRAW.choice((0, 0.4)))
            for gap in gaps(sketch):
                alone = {save: sketch[save] for save in above(sketch, gap)}
                trees = [drawn_ground(DRAW) for _ in range(3)]
                if clash_of(sketch) is None:
                    trees += [fitting_tree(sketch, gap), {**fitting_tree(sketch, gap), "zz": (1, 2)},
                              {**fitting_tree(sketch, gap), **drawn_ground(DRAW)}]
                    trees.append(dict(list(fitting_tree(sketch, gap).items())[1:]))
                for tree in trees:
                    right = plain_trees(DRAW, alone, {gap: tree}) is not None
                    self.assertIs(is_fitting(sketch, gap, tree), right)
                    counts[right] += 1
        self.assertGreater(min(counts.values()), 200)

    def test_trees_that_fit_by_all_but_one_entry(self):
        right = {"a": (0, 0, 0), "c": (1,) * 5}
        for tree, fits in ((right, True), ({**right, "d": ()}, True), ({**right, "b": ()}, False), ({**right, "a": (0,)}, False),
                           ({**right, "c": (1,) * 6}, False), ({"a": (0, 0, 0)}, False), ({"c": (1,) * 5}, False), ({}, False),
                           ({**right, "a": [0, 0, 0]}, False), ({**right, "a": (0, 0, True)}, False), ({**right, "A": ()}, False),
                           (list(right), False), ({**right, "d": (0,) * 997}, False), (None, False), (Outline(GAP), False)):
            self.assertIs(is_fitting(SKETCH, GAP, tree), fits, tree)
            self.assertIs(is_fitting(LESS, GAP, tree), False)
            self.assertIs(is_fitting(MORE, GAP, tree), False)
        for value in wrong.ODD:
            self.assertIs(is_fitting(SKETCH, GAP, value), False)
        other = {**BACK, (7, 2): ((6, 1), ("drop", "a", 1))}
        self.assertEqual([is_fitting(other, (6, 1), {"a": (5,)}), is_fitting(other, (6, 1), {"a": ()})], [True, False])

    def test_wrong_arguments(self):
        unknown = (errors.UnknownName, {"wanted": (8, 8)})
        wrong.check_wrong(self, gaps, (SKETCH,), (WRONG_SKETCH,))
        wrong.check_wrong(self, clash_of, (SKETCH,), (WRONG_SKETCH,))
        wrong.check_wrong(self, is_clash_of, (SKETCH, None), (WRONG_SKETCH, None))
        known = (errors.UnknownName, {"wanted": (1, 2)})
        then = ((unknown, (SKETCH, (8, 8)), (0, 1)), (known, (SKETCH, (1, 2)), (0, 1)), (unknown, (MORE, (8, 8)), (0, 1)))
        wrong.check_wrong(self, above, (SKETCH, GAP), (WRONG_SKETCH, WRONG_SAVE), then)
        wrong.check_wrong(self, is_fitting, (SKETCH, GAP, None), (WRONG_SKETCH, WRONG_SAVE, None), tuple(
            (error, arguments + (None,), places) for error, arguments, places in then))
        for sketch in (MORE, LESS):
            self.assertIsInstance(is_fitting(sketch, GAP, {}), bool)
        refused = (errors.Refused, {"reason": clash_of(MORE)})
        then = then + ((refused, (MORE, GAP), (0, 1)),)
        for function in (said, fitting_tree):
            wrong.check_wrong(self, function, (SKETCH, GAP), (WRONG_SKETCH, WRONG_SAVE), then)
        then = ((unknown, (SKETCH, (8, 8)), (0, 1)), ((errors.UnknownName, {"wanted": GAP}), (SKETCH, GAP), (0, 1)),
                ((errors.Refused, {"reason": ("round", (3, 1))}), (ROUND, (3, 1)), (0, 1)),
                ((errors.Refused, {"reason": ("deed", (1, 4), ("gone", "a"))}), (LESS, (1, 4)), (0, 1)))
        wrong.check_wrong(self, says, (SKETCH, (1, 3)), (WRONG_SKETCH, WRONG_SAVE), then)


class SketchClashTest(unittest.TestCase):
    def test_every_clash_is_taken_and_nothing_else(self):
        counts = {"ring": 0, "deed": 0, "gap": 0, None: 0}
        for _ in range(120):
            sketch = drawn_sketch(DRAW, 6, DRAW.choice((0.1, 0.5, 1)))
            right = {}
            for value in all_clashes(sketch):
                right[value] = plain_is_clash(sketch, value)
                self.assertIs(is_clash_of(sketch, value), right[value], (sketch, value))
            found = clash_of(sketch)
            if found is None:
                self.assertFalse(any(right.values()))
            else:
                self.assertTrue(plain_is_clash(sketch, found))
                self.assertIs(is_clash_of(sketch, found), True)
            for word in {value[0] for value in right if right[value]} | ({None} if found is None else set()):
                counts[word] += 1
        self.assertGreater(min(counts.values()), 8, counts)

    def test_either_a_clash_or_trees_for_all_gaps(self):
        counts = {True: 0, False: 0}
        for _ in range(300):
            sketch = drawn_sketch(DRAW, 10, DRAW.choice((0, 0.1, 0.3)))
            found = clash_of(sketch)
            counts[found is None] += 1
            if found is None:
                for more in ({}, {"zz": (1,)}):
                    trees = plain_trees(DRAW, sketch, {gap: {**fitting_tree(sketch, gap), **more} for gap in gaps(sketch)})
                    self.assertEqual(set(trees), set(sketch) | set(gaps(sketch)) | {None})
            elif found[0] != "ring":
                for _ in range(10):
                    grounds = {gap: drawn_ground(DRAW) for gap in gaps(sketch)}
                    self.assertIsNone(plain_trees(DRAW, sketch, grounds))
        self.assertGreater(min(counts.values()), 40)

    def test_rings(self):
        put = ("put", "a", 1)
        for sketch, ring in (
            (BACK, RING[1]), (BACK, RING[1][1:] + RING[1][:1]), ({(1, 1): ((1, 2), put)}, ((1, 1), (1, 2))),
            ({(1, 1): ((2, 1), put), (2, 1): ((1, 1), put)}, ((1, 1), (2, 1))),
            ({(1, 1): ((2, 5), put), (2, 1): ((1, 3), put)}, ((1, 1), (1, 3), (2, 1), (2, 5))),
            ({(1, 1): ((2, 5), put), (2, 1): ((1, 3), put), (1, 2): (None, put)}, ((1, 1), (1, 2), (1, 3), (2, 1), (2, 5))),
            ({(1, 1): ((2, 5), put), (2, 1): ((1, 3), put), (1, 2): (None, put)}, ((1, 1), (1, 3), (2, 1), (2, 5))),
        ):
            self.assertTrue(plain_is_clash(sketch, ("ring", ring)))
            self.assertIs(is_clash_of(sketch, ("ring", ring)), True)
            self.assertEqual(clash_of(sketch)[0], "ring")
            self.assertTrue(plain_is_clash(sketch, clash_of(sketch)))
            for value in (ring[::-1], ring + ring, ring[:1], ring[1:], (), list(ring), ring + ((9, 9),), (ring,)):
                right = isinstance(value, tuple) and value == ring[::-1] and len(ring) == 2
                self.assertIs(is_clash_of(sketch, ("ring", value)), right, value)
        sketch = {(1, 1): ((2, 5), put), (2, 1): ((1, 3), put)}
        self.assertIs(is_clash_of(sketch, ("ring", ((1, 1), (1, 2), (1, 3), (2, 1), (2, 5)))), False)
        self.assertIs(is_clash_of(sketch, ("ring", ((1, 1), (1, 3), (2, 1), (2, 4), (2, 5)))), False)

    def test_values_that_are_no_clash(self):
        deed, gap = ("deed", (1, 4), ("gone", "a")), ("gap", GAP, "b", (1, 3), (5, 1))
        self.assertEqual([is_clash_of(LESS, deed), is_clash_of(MORE, gap), is_clash_of(BACK, RING)], [True] * 3)
        for sketch, right in ((LESS, deed), (MORE, gap), (BACK, RING)):
            for value in wrong.ODD + (
                list(right), right[:-1], right + (0,), ("Deed",) + right[1:], (right,), (None,) + right[1:], Outline(None),
                RING if sketch != BACK else None, ("ring", ((True, 1), (2, 1), (2, 2))), ("ring", RING[1], RING[1]),
                ("ring", ([1, 1], (2, 1), (2, 2))), ("deed", (1, 4), ["gone", "a"]), ("deed", (1, 4), ("length", "a")),
                ("deed", [1, 4], ("gone", "a")), ("deed", (1, True), ("gone", "a")), ("deed", (1, 3), ("gone", "a")),
                ("deed", (1, 4), None), ("deed", GAP, ("gone", "a")), ("deed", (1, 4), ("gone", "b")), ("deed", (1, 2), None),
                ("gap", GAP, "b", (5, 1), (1, 3)), ("gap", GAP, "a", (1, 3), (5, 1)), ("gap", (1, 2), "b", (1, 3), (5, 1)),
                ("gap", GAP, "b", (1, 3), (1, 3)), ("gap", GAP, "b", (1, 2), (5, 1)), ("gap", (2, True), "b", (1, 3), (5, 1)),
                ("gap", GAP, ["b"], (1, 3), (5, 1)), ("gap", GAP, None, (1, 3), (5, 1)), ("gap", GAP, "b", [1, 3], (5, 1)),
                ("gap", GAP, "b", (True, 3), (5, 1)), ("gap", None, "b", (1, 3), (5, 1)), ("gap", GAP, "b", None, (5, 1)),
                ("gap", GAP, "b", GAP, (5, 1)), ("gap", GAP, "b", (1, 3), GAP), ("gap", GAP, "b", (1, 3), (6, 1)), ("gap", (6, 6), "b", (1, 3), (5, 1)), ("deed", (1, 4), Outline(None)),
            ):
                self.assertIs(is_clash_of(sketch, value), False, repr(value)[:80])

    def test_gaps_with_branches_that_say_unlike_things(self):
        drop, gone = ("drop", "a", 3), ("rename", "b", "a", 1)
        for one, other, name, right in (
            (drop, gone, "a", True), (drop, ("drop", "a", 4), "a", True), (drop, drop, "a", False),
            (("patch", "a", 0, 0, 1, 3), drop, "a", False), (("put", "a", 7), drop, "a", False),
            (gone, ("rename", "c", "a", 5), "a", False), (gone, ("patch", "b", 0, 0, 0, 2), "b", True),
        ):
            sketch = {(1, 1): (GAP, one), (3, 1): (GAP, other)}
            self.assertEqual(clash_of(sketch) is not None, right, (one, other))
            self.assertIs(is_clash_of(sketch, ("gap", GAP, name, (1, 1), (3, 1))), right)
            apart = {(1, 1): (GAP, one), (3, 1): ((2, 2), other)}
            self.assertIsNone(clash_of(apart))

    def test_what_is_not_true(self):
        self.assertEqual([says(SKETCH, (4, 1)), says({**SKETCH, (1, 4): ((1, 3), ("drop", "b", 4))}, (1, 4))], [{}, {}])
        self.assertEqual(clash_of({(1, 1): ((1, 2), ("put", "a", 0))})[0], "ring")
        self.assertNotIn("c", says(SKETCH, (1, 2)))


class FramesTest(unittest.TestCase):
    def test_sights(self):
        for _ in range(100):
            history, trees = drawn_story(DRAW, 8)
            frames = bent_frames(DRAW, some_frames(DRAW, history))
            wanted = plain_sights(frames)
            told = sights(frames)
            self.assertEqual(list(told), sorted(wanted))
            self.assertEqual(sketch_of(frames), {save: sight[1:3] for save, sight in told.items()})
            for save, (n, base, mark, payloads) in told.items():
                least = min(body for body in frames if body[1:3] == save)
                self.assertEqual((n, base, mark), spread.told_body(least)[3:6])
                self.assertEqual(repr(payloads), repr({index: wanted[save][3][index] for index in sorted(wanted[save][3])}))
        self.assertEqual([sights(()), sketch_of(()), clash(())], [{}, {}, None])

    def test_frames_of_histories_agree(self):
        for _ in range(150):
            history, trees = drawn_story(DRAW, 12)
            self.assertIsNone(clash(some_frames(DRAW, history)))

    def test_frames_without_a_clash_agree(self):
        counts = {True: 0, False: 0}
        for _ in range(600):
            story, trees = drawn_story(DRAW, 7)
            frames = bent_frames(DRAW, some_frames(DRAW, story))
            found = clash(frames)
            counts[found is None] += 1
            if found is not None:
                self.assertIs(is_clash(frames, found), True)
                continue
            sketch = sketch_of(frames)
            grounds = {gap: {**fitting_tree(sketch, gap), **DRAW.choice(({}, {"zz": (1,) * 60}))} for gap in gaps(sketch)}
            history = history_for(DRAW, frames, sketch, grounds)
            self.assertIs(is_history(history), True)
            self.assertTrue(set(frames) <= set(all_frames(ARCHIVE, history)))
            self.assertIs(has_frames(history, frames), True)
            told = versions(history)
            self.assertEqual({gap: told[gap] for gap in grounds}, grounds)
        self.assertGreater(min(counts.values()), 80)

    def test_clashes_of_frames(self):
        near = frames_of(7, NEXT, 3)
        seven = frames_of(7, (3, 1, None, ("put", "c", tuple(range(1, 8))), 4), 0)
        bent = with_payload(seven[3], 3, (0, 993, 991, 989, 987, 985))
        drop = frames_of(7, (1, 2, (1, 1), ("drop", "a"), 2), 3)
        for frames, wanted in (
            (near, None), (near * 3, None), (near + drop[:1], ("marks", near[0], drop[0])),
            (near + near[:1] + (with_payload(near[0], 0, (8, 8, 0, 0, 0, 0)),),
             ("index", with_payload(near[0], 0, (8, 8, 0, 0, 0, 0)), near[0])),
            (seven[:2] + (bent,), ("poly", (3, 1), 0, (0, 1, 3))), (seven[:1] + (bent,), None),
            (near + frames_of(7, (2, 1, (1, 1), ("drop", "a"), 1), 4), ("gap", (1, 1), "a", (1, 2), (2, 1))),
            (frames_of(7, (1, 5, (2, 7), ("put", "a", ()), 1), 0) + frames_of(7, (2, 3, (1, 8), ("put", "a", ()), 1), 0), "ring"),
            (frames_of(7, FIRST, 0) + frames_of(7, (2, 1, (1, 1), ("drop", "a"), 1), 4), ("deed", (2, 1), ("length", "a"))),
            (frames_of(7, FIRST, 0) + frames_of(7, (2, 1, (1, 1), ("drop", "b"), 1), 4), ("deed", (2, 1), ("gone", "b"))),
        ):
            for told in (frames, frames[::-1], frames + frames):
                found = clash(told)
                if wanted == "ring":
                    self.assertEqual(found[0], "ring")
                else:
                    self.assertEqual(found, wanted)
                self.assertIs(is_clash(told, found), found is not None)

    def test_many_frames(self):
        story = tuple((1, number, (1, number - 1) if number > 1 else None, ("put", "a", (number,)), 1)
                      for number in range(1, 492))
        frames = all_frames(7, story)
        self.assertIsNone(clash(frames))
        self.assertEqual(len(sights(frames)), 491)
        more = frames + all_frames(7, ((2, 1, None, ("put", "a", ()), 1),))
        wrong.check_raises(self, errors.InvalidFrames, clash, (more,))

    def test_wrong_arguments(self):
        for function in (sights, sketch_of, clash):
            wrong.check_wrong(self, function, (frames_of(9, NEXT, 3),), (FRAMES,))


if __name__ == "__main__":
    unittest.main()
