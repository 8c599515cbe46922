"""Saves and histories: faults, rows, versions, origins."""

import random
import unittest

from stillread import errors
from stillread.plain import histories as module
from stillread.plain.histories import (
    common_base, heads, history_fault, is_history, is_save, is_save_name, origins, row_to, rows_number, version,
    versions,
)
from tests import wrong
from tests.examples import run_examples
from tests.stories import NAMES, drawn_history, plain_rows
from tests.test_trees import ODD_DEEDS

STORY_ROWS = """
>>> NEW, FIRST = ("put", "a", (5, 6, 7)), (1, 1, None, ("put", "a", (5, 6, 7)), 2)
>>> NEXT, APART = (1, 2, (1, 1), ("patch", "a", 1, 1, (8, 9)), 2), (2, 1, (1, 1), ("rename", "a", "b"), 1)
>>> STORY = (FIRST, NEXT, APART)
"""
EXAMPLES = STORY_ROWS + """
>>> [version(STORY, (1, 2)), version(STORY, (2, 1)), row_to(STORY, (1, 2)), heads(STORY), common_base(STORY, (1, 2), (2, 1))]
[{'a': (5, 8, 9, 7)}, {'b': (5, 6, 7)}, ((1, 1), (1, 2)), ((1, 2), (2, 1)), (1, 1)]
>>> [origins(STORY, (1, 2), "a"), rows_number(("put", "a", (0,) * 7)), rows_number(("drop", "a"))]
[((1, 1, 0), (1, 2, 0), (1, 2, 1), (1, 1, 2)), 2, 1]
>>> [history_fault((NEXT, FIRST)), history_fault((FIRST, FIRST)), history_fault(((1, 1, None, ("drop", "a"), 1),)), history_fault(STORY)]
[(0, 'base'), (1, 'number'), (0, ('gone', 'a')), None]
>>> [time_sequence(((1, 1), (1, 2), (2, 1)), (((2, 1), (1, 1)),)), is_time_sequence(((1, 1), (1, 2)), (((1, 2), (1, 1)),), ("ring", ((1, 1), (1, 2))))]
[((2, 1), (1, 1), (1, 2)), True]
>>> version(STORY, (3, 1))
raises UnknownName((3, 1))
"""
DRAW = random.Random(8)
FIRST = (1, 1, None, ("put", "a", (5, 6, 7)), 2)
NEXT = (1, 2, (1, 1), ("patch", "a", 1, 1, (8, 9)), 2)
APART = (2, 1, (1, 1), ("rename", "a", "b"), 1)
STORY = (FIRST, NEXT, APART)
DROP = ("drop", "a")
FORMLESS = [
    (0, 1, None, DROP, 1), (997, 1, None, DROP, 1), (1, 0, None, DROP, 1), (1, 997, None, DROP, 1),
    (True, 1, None, DROP, 1),
    (1, True, None, DROP, 1), (1, 1, (1,), DROP, 1), (1, 1, (0, 1), DROP, 1), (1, 1, (1, True), DROP, 1),
    (1, 1, [1, 1], DROP, 1), (1, 1, 0, DROP, 1), (1, 1, False, DROP, 1), (1, 1, (), DROP, 1), (1, 1, None, DROP, 0),
    (1, 1, None, DROP, 17), (1, 1, None, DROP, True), (1, 1, None, DROP, None), (1, 1, None, DROP), (1, 1, DROP, 1),
    (1, 1, None, DROP, 1, 1), [1, 1, None, DROP, 1], ((1, 1), None, DROP, 1), ("1", 1, None, DROP, 1),
    (10 ** 99, 1, None, DROP, 1), (1, 1, None, DROP, 10 ** 59), (1, 1, "a", DROP, 1), (None, 1, None, DROP, 1),
] + [(1, 1, None, deed, 16) for deed in ODD_DEEDS]


def is_plain_history(value):
    """Among the odd values of `wrong`."""
    return value == () or repr(value) == repr(((1, 1, None, ("put", "a", ()), 1),))


def in_another_sequence(history):
    """The saves in a drawn sequence with bases earlier and the numbers of each hand ascending."""
    left, told = list(history), []
    while left:
        names = [None] + [save[:2] for save in told]
        ready = [save for save in left if save[2] in names and not any(
            other[0] == save[0] and other[1] < save[1] for other in left)]
        told.append(DRAW.choice(ready))
        left.remove(told[-1])
    return tuple(told)


class SavesTest(unittest.TestCase):
    def test_examples(self):
        run_examples(self, EXAMPLES, {**vars(errors), **vars(module)})

    def test_constants(self):
        self.assertEqual((module.MOST_FRAMES, module.ROW), (16, 6))

    def test_is_save_name(self):
        for value in wrong.ODD + ((996, 996), (0, 1), (1, 0), (997, 1), (1, 997), (True, 1), (1, True),
                                  [1, 1], (1, 1, 1), ("1", 1), (1, None), ((1,), 1), (10 ** 59, 1)):
            self.assertIs(is_save_name(value), wrong.is_save_name(value), repr(value)[:60])

    def test_is_save(self):
        for value in list(wrong.ODD) + FORMLESS:
            self.assertIs(is_save(value), False, repr(value)[:60])
        for value in STORY + ((996, 996, (996, 995), DROP, 16), (1, 1, (2, 996), DROP, 1), (1, 1, (1, 1), DROP, 1)):
            self.assertIs(is_save(value), True, value)
        for many, k in ((0, 1), (6, 1), (7, 2), (12, 2), (13, 3), (42, 7), (43, 8), (48, 8)):
            deeds = (("put", "a", (1,) * many), ("patch", "a", 0, 0, (1,) * many))
            for deed in deeds:
                self.assertEqual([is_save((1, 1, None, deed, n)) for n in (k - 1, k, 16, 17)],
                                 [False, True, True, False])
                self.assertEqual(rows_number(deed), k)

    def test_rows_number(self):
        self.assertEqual([rows_number(("rename", "a", "b")), rows_number(DROP)], [1, 1])
        deed = (errors.InvalidDeed, [value for value in wrong.ODD if repr(value) not in (
            repr(("put", "a", ())), repr(DROP))] + list(ODD_DEEDS))
        wrong.check_wrong(self, rows_number, (DROP,), (deed,))


class FaultsTest(unittest.TestCase):
    def test_values_that_are_no_tuples(self):
        for value in wrong.ODD:
            self.assertIs(is_history(value), is_plain_history(value), repr(value)[:60])
            if not isinstance(value, tuple):
                self.assertEqual(history_fault(value), (0, "form"))
        self.assertEqual([history_fault([FIRST]), history_fault({FIRST: FIRST}), history_fault(())],
                         [(0, "form"), (0, "form"), None])

    def test_forms(self):
        for save in FORMLESS:
            self.assertEqual(history_fault((save,)), (0, "form"), repr(save)[:60])
            self.assertEqual(history_fault((FIRST, save, 5)), (1, "form"), repr(save)[:60])

    def test_the_first_fault_that_applies(self):
        long = ("put", "a", (0,) * 7)
        for save, word in (
            ((1, 1, (3, 3), long, 1), "number"), ((1, 2, (3, 3), long, 1), "base"), ((1, 2, (1, 2), long, 1), "base"),
            ((1, 2, (1, 1), long, 1), "frames"), ((1, 2, (1, 1), ("patch", "b", 9, 9, (0,) * 7), 1), "frames"),
            ((1, 2, (1, 1), ("patch", "b", 9, 9, (0,) * 7), 2), ("gone", "b")), ((1, 2, (1, 1), long, 2), None),
            ((1, 2, (1, 1), ("patch", "a", 9, 9, ()), 2), ("place", "a")),
            ((1, 2, None, ("drop", "a"), 2), ("gone", "a")),
            ((1, 1, None, long, 1), "number"), ((2, 1, (1, 1), ("rename", "a", "b"), 1), None),
        ):
            self.assertEqual(history_fault((FIRST, save)), None if word is None else (1, word), save)
            self.assertIs(is_history((FIRST, save)), word is None)

    def test_the_first_save_with_a_fault(self):
        gone, formless = (2, 1, (1, 1), ("drop", "b"), 1), (1, 1)
        self.assertEqual(history_fault((FIRST, gone, formless)), (1, ("gone", "b")))
        self.assertEqual(history_fault((FIRST, formless, gone)), (1, "form"))
        self.assertEqual(history_fault((FIRST, NEXT, FIRST, gone)), (2, "number"))
        self.assertEqual(history_fault((FIRST, gone, FIRST)), (1, ("gone", "b")))

    def test_numbers_ascend_for_each_hand(self):
        saves = tuple((hand, number, None, ("put", "a", ()), 1) for hand, number in
                      ((2, 5), (1, 3), (2, 6), (1, 996), (996, 1)))
        self.assertIs(is_history(saves), True)
        self.assertEqual(history_fault(saves + ((2, 6, None, ("put", "a", ()), 1),)), (5, "number"))
        self.assertEqual(history_fault(saves + ((2, 4, None, ("put", "a", ()), 1),)), (5, "number"))

    def test_drawn_histories_have_no_fault(self):
        for _ in range(100):
            history, trees = drawn_history(DRAW, 25)
            self.assertEqual(history_fault(history), None)
            self.assertIs(is_history(history), True)

    def test_a_refused_deed_in_drawn_histories(self):
        for _ in range(100):
            history, trees = drawn_history(DRAW, 12)
            for base in [None] + list(trees):
                there = trees[base] if base else {}
                for name in NAMES:
                    save = (3, 1, base, ("drop", name), 1)
                    wanted = None if name in there else (len(history), ("gone", name))
                    self.assertEqual(history_fault(history + (save,)), wanted)

    def test_long_histories(self):
        many = [(hand, number) for hand in range(1, 14) for number in range(1, 997)]
        letters = "abcdefghijklmnopqrstuvwxyz"
        names = [one + two + three for one in letters for two in letters for three in letters]
        saves = [(hand, number, many[at - 1] if at else None, ("put", names[at], (at % 997,)), 1)
                 for at, (hand, number) in enumerate(many)]
        history = tuple(saves)
        self.assertIs(is_history(history), True)
        self.assertEqual(len(version(history, many[-1])), len(many))
        self.assertEqual(len(row_to(history, many[-1])), len(many))
        self.assertEqual(heads(history), (many[-1],))


class VersionsTest(unittest.TestCase):
    def test_drawn_versions(self):
        for _ in range(100):
            history, trees = drawn_history(DRAW, 20)
            self.assertEqual(repr(versions(history)), repr({save: trees[save] for save in sorted(trees)}))
            for save in trees:
                self.assertEqual(repr(version(history, save)), repr(trees[save]))

    def test_versions_share_nothing(self):
        told = versions(STORY)
        told[(1, 1)]["a"] = ()
        told[(1, 2)].clear()
        self.assertEqual(versions(STORY)[(2, 1)], {"b": (5, 6, 7)})
        self.assertEqual(version(STORY, (1, 2)), {"a": (5, 8, 9, 7)})
        self.assertEqual(versions(()), {})

    def test_rows_and_versions_by_rows_alone(self):
        for _ in range(60):
            history, trees = drawn_history(DRAW, 20)
            saves = {save[:2]: save for save in history}
            for name in trees:
                row, at = [], name
                while at is not None:
                    row.insert(0, at)
                    at = saves[at][2]
                self.assertEqual(row_to(history, name), tuple(row))
                alone = tuple(save for save in history if save[:2] in row)
                self.assertEqual(version(alone, name), trees[name])
                self.assertEqual(row_to(alone, name), tuple(row))

    def test_another_sequence_of_time(self):
        told = 0
        for _ in range(150):
            history, trees = drawn_history(DRAW, 14)
            other = in_another_sequence(history)
            self.assertEqual(versions(other), versions(history))
            told += other != history
        self.assertGreater(told, 20)

    def test_origins_of_cells(self):
        for _ in range(80):
            history, trees = drawn_history(DRAW, 20)
            deeds = {save[:2]: save[3] for save in history}
            for save, tree in trees.items():
                for name in tree:
                    told = origins(history, save, name)
                    cells = tuple(deeds[(hand, number)][-1][index] for hand, number, index in told)
                    self.assertEqual(cells, tree[name])
                    self.assertEqual(len(set(told)), len(told))
                    self.assertTrue({one[:2] for one in told} <= set(row_to(history, save)))

    def test_origins_hang_on_no_cell(self):
        for _ in range(50):
            history, trees = drawn_history(DRAW, 15)
            other = tuple(save[:3] + (save[3][:-1] + (tuple(DRAW.randrange(997) for _ in save[3][-1]),),) + save[4:]
                          if save[3][0] in ("put", "patch") else save for save in history)
            for save, tree in trees.items():
                for name in tree:
                    self.assertEqual(origins(history, save, name), origins(other, save, name))

    def test_heads_and_common_bases(self):
        for _ in range(60):
            history, trees = drawn_history(DRAW, 15)
            bases = {save[2] for save in history}
            self.assertEqual(heads(history), tuple(sorted(set(trees) - bases)))
            for one in trees:
                for other in trees:
                    rows = row_to(history, one), row_to(history, other)
                    both = [save for save in rows[0] if save in rows[1]]
                    self.assertEqual(common_base(history, one, other), both[-1] if both else None)
        self.assertEqual([heads(()), common_base(STORY, (1, 1), (1, 2)), common_base(STORY, (2, 1), (2, 1))],
                         [(), (1, 1), (2, 1)])

    def test_saves_with_k_and_with_16_frames(self):
        new = ("put", "a", (1,) * 48)
        self.assertEqual(version(((1, 1, None, new, 8), (1, 2, (1, 1), DROP, 16)), (1, 2)), {})
        self.assertEqual(history_fault(((1, 1, None, new, 7),)), (0, "frames"))

    def test_what_is_not_true(self):
        again = STORY + ((3, 1, (1, 1), ("put", "c", ()), 1), (3, 2, (3, 1), ("drop", "c"), 1))
        self.assertEqual(version(again, (3, 2)), version(again, (1, 1)))
        self.assertNotEqual(row_to(again, (3, 2)), row_to(again, (1, 1)))

    def test_wrong_arguments(self):
        history = (errors.InvalidHistory, wrong.odd_but(is_plain_history) + [
            [FIRST], (NEXT,), (FIRST, FIRST), (FIRST, (2, 1, (1, 1), ("drop", "b"), 1)), FIRST] + [
                (save,) for save in FORMLESS])
        save = (errors.InvalidSave, wrong.odd_but(wrong.is_save_name) + [(0, 1), (1, True), [1, 1], (1, 997)])
        name = (errors.InvalidName, wrong.odd_but(wrong.is_name))
        unknown = (errors.UnknownName, {"wanted": (3, 1)})
        for function in (versions, heads):
            wrong.check_wrong(self, function, (STORY,), (history,))
        for function in (row_to, version):
            wrong.check_wrong(self, function, (STORY, (1, 2)), (history, save), ((unknown, (STORY, (3, 1)), (0, 1)),))
        then = ((unknown, (STORY, (3, 1), "c"), (0, 1, 2)),
                ((errors.UnknownName, {"wanted": "b"}), (STORY, (1, 2), "b"), (0, 1, 2)))
        wrong.check_wrong(self, origins, (STORY, (1, 2), "a"), (history, save, name), then)
        then = ((unknown, (STORY, (3, 1), (3, 2)), (0, 1, 2)),
                ((errors.UnknownName, {"wanted": (3, 2)}), (STORY, (1, 1), (3, 2)), (0, 1, 2)))
        wrong.check_wrong(self, common_base, (STORY, (1, 1), (1, 2)), (history, save, save), then)


if __name__ == "__main__":
    unittest.main()
