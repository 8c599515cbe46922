"""Trees, deeds, refusals."""

import random
import unittest

from stillread import errors
from stillread.plain import trees as module
from stillread.plain.trees import done, is_deed, is_tree, new_cells, refusal, touched
from tests import wrong
from tests.examples import run_examples
from tests.stories import drawn_deed, drawn_tree, plain_deed

EXAMPLES = """
>>> A = done({}, ("put", "a", (5, 6, 7)))
>>> [A, done(A, ("patch", "a", 1, 1, (8, 9))), done(A, ("rename", "a", "b")), done(A, ("drop", "a")), new_cells(("drop", "a")), touched(("rename", "b", "a"))]
[{'a': (5, 6, 7)}, {'a': (5, 8, 9, 7)}, {'b': (5, 6, 7)}, {}, (), ('a', 'b')]
>>> [refusal(A, ("drop", "b")), refusal(A, ("patch", "a", 3, 1, ())), refusal(A, ("patch", "a", 3, 0, ())), refusal({"a": (), "b": ()}, ("rename", "a", "b"))]
[('gone', 'b'), ('place', 'a'), None, ('there', 'b')]
>>> done({}, ("rename", "a", "b"))
raises Refused(('gone', 'a'))
"""
DRAW = random.Random(7)
ODD_TREES = (
    {"abcde": ()}, {"": ()}, {"A": ()}, {1: ()}, {None: ()}, {"a": None}, {"a": [1]}, {"a": (997,)}, {"a": (True,)},
    {"a": (0,) * 997}, {"a": (1,), "b": ((1,),)}, {("a",): ()}, {"a": ()}.items(), (("a", ()),), [{"a": ()}],
    {"a": 5},
    {"a": "b"}, {"a": (-1,)}, {True: ()}, {"a": (), 1: ()}, {"a": (), None: ()},
)
ODD_DEEDS = (
    ("put",), ("put", "a"), ("put", "a", (), ()), ("put", "abcde", ()), ("put", "a", [1]), ("put", "a", (997,)),
    ("put", "a", (0,) * 49), ("put", "a", (True,)), ("put", "a", None), ["put", "a", ()], ("PUT", "a", ()),
    ("patch", "a", 0, 0), ("patch", "a", 0, 0, (), ()), ("patch", "a", -1, 0, ()), ("patch", "a", 0, -1, ()),
    ("patch", "a", 997, 0, ()), ("patch", "a", 0, 997, ()), ("patch", "a", True, 0, ()), ("patch", "a", 0, False, ()),
    ("patch", "a", 0, 0, (0,) * 49), ("patch", "a", 10 ** 99, 0, ()), ("patch", 1, 0, 0, ()),
    ("patch", "a", "0", 0, ()),
    ("drop",), ("drop", "a", "b"), ("drop", ""), ("drop", None), ("drop", ("a",)), ("rename", "a"),
    ("rename", "a", "a"),
    ("rename", "a", "b", "c"), ("rename", "a", ""), ("rename", "A", "b"), ("rename", "a", True), ("other", "a"),
    (("put",), "a", ()), (["put"], "a", ()), ({}, "a"), (0, "a", ()), (True, "a"), (None, "a"), "put", "drop",
)


def is_plain_tree(value):
    return isinstance(value, dict) and all(
        wrong.is_name(name) and wrong.is_cells(cells, 996) for name, cells in value.items())


def is_plain_deed(value):
    """Among the odd values of `wrong`."""
    return repr(value) in (repr(("put", "a", ())), repr(("drop", "a")))


class TreesTest(unittest.TestCase):
    def test_examples(self):
        run_examples(self, EXAMPLES, {**vars(errors), **vars(module)})

    def test_constants(self):
        self.assertEqual((module.MOST_LENGTH, module.MOST_NEW), (996, 48))

    def test_is_tree(self):
        for value in wrong.ODD:
            self.assertIs(is_tree(value), is_plain_tree(value), repr(value)[:60])
        for value in ODD_TREES:
            self.assertIs(is_tree(value), False, repr(value)[:60])
        for value in ({}, {"a": ()}, {"zzzz": (0,) * 996, "a": (996,)}, {"b": (), "a": ()}):
            self.assertIs(is_tree(value), True)

    def test_is_deed(self):
        for value in wrong.ODD:
            self.assertIs(is_deed(value), is_plain_deed(value), repr(value)[:60])
        for value in ODD_DEEDS:
            self.assertIs(is_deed(value), False, repr(value)[:60])
        for value in (("put", "a", (0,) * 48), ("patch", "zzzz", 996, 996, (1,) * 48), ("patch", "a", 0, 0, ()),
                      ("drop", "abcd"), ("rename", "a", "aa")):
            self.assertIs(is_deed(value), True)

    def test_drawn_deeds(self):
        refused = 0
        for _ in range(2000):
            tree, deed = drawn_tree(DRAW), drawn_deed(DRAW)
            before = repr(tree)
            wanted, reason = plain_deed(tree, deed)
            self.assertEqual(refusal(tree, deed), reason)
            if reason is None:
                behind = done(tree, deed)
                self.assertEqual(repr(behind), repr(wanted))
                self.assertIsNot(behind, tree)
            else:
                refused += 1
                wrong.check_raises(self, (errors.Refused, {"reason": reason}), done, (tree, deed))
            self.assertEqual(repr(tree), before)
        self.assertGreater(refused, 100)

    def test_refusals_in_their_order(self):
        full = {"a": (0,) * 996, "b": ()}
        for deed, reason in (
            (("patch", "c", 996, 996, (1,)), ("gone", "c")), (("patch", "a", 996, 1, (1,)), ("place", "a")),
            (("patch", "a", 996, 0, (1,)), ("long", "a")), (("patch", "a", 996, 0, ()), None),
            (("patch", "a", 995, 1, (1,)), None), (("patch", "a", 0, 47, (1,) * 48), ("long", "a")),
            (("patch", "a", 0, 48, (1,) * 48), None), (("patch", "b", 1, 0, ()), ("place", "b")),
            (("patch", "b", 0, 1, (1,)), ("place", "b")), (("patch", "b", 0, 0, (1,) * 48), None),
            (("patch", "a", 0, 996, ()), None), (("patch", "a", 1, 996, ()), ("place", "a")),
            (("rename", "c", "a"), ("gone", "c")), (("rename", "a", "b"), ("there", "b")),
            (("rename", "a", "c"), None),
            (("drop", "c"), ("gone", "c")), (("drop", "b"), None), (("put", "a", (1,) * 48), None),
        ):
            self.assertEqual(refusal(full, deed), reason, deed)

    def test_patches_at_the_end(self):
        self.assertEqual(done({"a": (1, 2)}, ("patch", "a", 2, 0, (3,))), {"a": (1, 2, 3)})
        grown = done({"a": (0,) * 948}, ("patch", "a", 948, 0, (1,) * 48))
        self.assertEqual(len(grown["a"]), 996)
        self.assertEqual(refusal(grown, ("patch", "a", 996, 0, (1,))), ("long", "a"))

    def test_names_ascend(self):
        self.assertEqual(list(done({"c": (), "a": ()}, ("put", "b", ()))), ["a", "b", "c"])
        self.assertEqual(list(done({"c": (), "b": ()}, ("rename", "c", "a"))), ["a", "b"])

    def test_deeds_about_unlike_names_change_places(self):
        met = 0
        for _ in range(1500):
            tree, one, other = drawn_tree(DRAW), drawn_deed(DRAW), drawn_deed(DRAW)
            if set(touched(one)) & set(touched(other)):
                continue
            self.assertEqual(refusal(tree, one) is None and refusal(tree, other) is None,
                             plain_deed(tree, one)[1] is None and plain_deed(tree, other)[1] is None)
            if refusal(tree, one) is None and refusal(tree, other) is None:
                self.assertEqual(done(done(tree, one), other), done(done(tree, other), one))
                met += 1
        self.assertGreater(met, 50)

    def test_refusals_hang_on_names_and_lengths_alone(self):
        for _ in range(500):
            tree, deed = drawn_tree(DRAW), drawn_deed(DRAW)
            other = {name: tuple(DRAW.randrange(997) for _ in cells) for name, cells in tree.items()}
            self.assertEqual(refusal(tree, deed), refusal(other, deed))

    def test_new_cells_and_touched(self):
        self.assertEqual([new_cells(deed) for deed in (
            ("put", "a", (1, 2)), ("patch", "a", 5, 6, (3,)), ("drop", "a"), ("rename", "b", "a"))],
            [(1, 2), (3,), (), ()])
        self.assertEqual([touched(deed) for deed in (
            ("put", "b", (1, 2)), ("patch", "a", 5, 6, (3,)), ("drop", "a"),
            ("rename", "b", "a"), ("rename", "a", "b"))],
            [("b",), ("a",), ("a",), ("a", "b"), ("a", "b")])

    def test_what_is_not_true(self):
        tree = {"a": (1,)}
        self.assertEqual(refusal(tree, ("rename", "a", "b")), None)
        self.assertEqual(refusal({"a": (1,), "b": ()}, ("rename", "a", "b")), ("there", "b"))
        same = ("put", "a", (1,))
        self.assertEqual([done(tree, same) == tree, refusal({}, ("drop", "a"))], [True, ("gone", "a")])

    def test_wrong_arguments(self):
        tree = (errors.InvalidTree, wrong.odd_but(is_plain_tree) + list(ODD_TREES))
        deed = (errors.InvalidDeed, wrong.odd_but(is_plain_deed) + list(ODD_DEEDS))
        then = (((errors.Refused, {"reason": ("gone", "b")}), ({"a": ()}, ("drop", "b")), (0, 1)),)
        wrong.check_wrong(self, done, ({"a": ()}, ("drop", "a")), (tree, deed), then)
        wrong.check_wrong(self, refusal, ({}, ("drop", "a")), (tree, deed))
        for function in (new_cells, touched):
            wrong.check_wrong(self, function, (("drop", "a"),), (deed,))


if __name__ == "__main__":
    unittest.main()
