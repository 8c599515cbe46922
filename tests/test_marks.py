"""Marks, sketches, and rows of pieces."""

import random
import unittest

from stillread import errors
from stillread.plain.trees import done, refusal
from stillread.read.marks import deed_of, is_mark, is_row, is_sketch, mark_of, origin, row_joined, row_length, row_part
from stillread.read.pieces import Outline
from tests import wrong
from tests.bodies import plain_mark
from tests.stories import drawn_deed, drawn_tree, plain_deed
from tests.test_trees import ODD_DEEDS

DRAW = random.Random(120)
RIGHT_MARKS = (
    ("put", "a", 0), ("put", "zzzz", 48), ("patch", "a", 0, 0, 0, 0), ("patch", "a", 996, 0, 0, 996),
    ("patch", "a", 0, 996, 48, 996), ("patch", "a", 5, 48, 48, 996), ("patch", "a", 0, 0, 48, 948), ("drop", "a", 0),
    ("drop", "a", 996), ("rename", "a", "b", 0), ("rename", "b", "a", 996), ("patch", "a", 2, 3, 1, 5),
)
WRONG_MARKS = wrong.ODD + (
    ("put", "a", 49), ("put", "a", -1), ("put", "a", True), ("put", "a", ()), ("put", "A", 1), ("put", "a"),
    ("put", "a", 1, 1), ["put", "a", 1], ("Put", "a", 1), ("patch", "a", 0, 0, 48, 949), ("patch", "a", 6, 0, 0, 5),
    ("patch", "a", 5, 1, 0, 5), ("patch", "a", 0, 6, 0, 5), ("patch", "a", 0, 0, 49, 5), ("patch", "a", 0, 0, 0, 997),
    ("patch", "a", -1, 0, 0, 5), ("patch", "a", 0, -1, 0, 5), ("patch", "a", 0, 0, -1, 5), ("patch", "a", 0, 0, 0, -1),
    ("patch", "a", True, 0, 0, 5), ("patch", "a", 0, True, 0, 5), ("patch", "a", 0, 0, True, 5),
    ("patch", "a", 0, 0, 0, True), ("patch", "", 0, 0, 0, 5), ("patch", "a", 0, 0, 0), ("patch", "a", 0, 0, 0, 0, 0),
    ("patch", "a", 5, 47, 48, 996), ("patch", "a", "0", 0, 0, 5), ("drop", "a", 997), ("drop", "a", -1),
    ("drop", "a", False), ("drop", "a"), ("drop", None, 1), ("drop", "a", 1, 1), ("rename", "a", "a", 3),
    ("rename", "a", "b", 997), ("rename", "a", "b", -1), ("rename", "a", "b", True), ("rename", "a", "b"),
    ("rename", "a", "abcde", 1), ("rename", "", "b", 1), ("rename", "a", 1, 1), ("rename", "a", "b", 1, 1),
    ("rename", "a", None, 1), (("put",), "a", 1), (["put"], "a", 1), ({}, "a", 1), (True, "a", 1), Outline(None),
    ("put", "a", (5, 6)), ("patch", "a", 1, 1, (8, 9)), ("rename", "a", "b"), ("put", ["a"], 1), (None,),
)
BELOW, NEW = ("below", "a"), ("new", (1, 2))
WRONG_ROWS = tuple(value for value in wrong.ODD if value != ()) + (
    [(BELOW, 0, 1)], ((BELOW, 0, 0),), ((BELOW, 0, -1),), ((BELOW, -1, 1),), ((BELOW, True, 1),), ((BELOW, 0, True),),
    ((BELOW, 0),), ((BELOW, 0, 1, 1),), ([BELOW, 0, 1],), ((["below", "a"], 0, 1),), ((("below", "A"), 0, 1),),
    ((("below", (1, 2)), 0, 1),), ((("new", "a"), 0, 1),), ((("new", (0, 2)), 0, 1),), ((("new", (1, True)), 0, 1),),
    ((("new", (1, 2, 3)), 0, 1),), ((("New", (1, 2)), 0, 1),), ((("new",), 0, 1),), ((("new", (1, 2), 1), 0, 1),),
    ((BELOW, 0, 1), (BELOW, 1, 1)), ((NEW, 0, 1), (BELOW, 3, 2), (BELOW, 5, 9)), (BELOW, 0, 1), ((BELOW, "0", 1),),
    ((BELOW, 0, None),), ((None, 0, 1),), ((BELOW, 10 ** 60, 1),), ((BELOW, 0, 10 ** 60),), (None,), ((0, 0, 1),),
    ((("below", ["a"]), 0, 1),), ((({}, "a"), 0, 1),), (Outline(None),), Outline(None), ((BELOW, 0, 1), None),
    (((True, "a"), 0, 1),), ((("new", [1, 2]), 0, 1),), ((("new", None), 0, 1),), ((("below", ""), 0, 1),),
)
ROW = (errors.InvalidOperation, list(WRONG_ROWS))


def drawn_row(draw, many=6):
    """A drawn row, parts that have to be one piece joined."""
    row = []
    for _ in range(draw.randint(0, many)):
        source = draw.choice((BELOW, NEW, ("below", "b"), ("new", (2, 1))))
        first, length = draw.randint(0, 9), draw.randint(1, 5)
        if row and draw.random() < 0.3:
            source, first = row[-1][0], row[-1][1] + row[-1][2]
        if row and row[-1][0] == source and row[-1][1] + row[-1][2] == first:
            row[-1] = (source, row[-1][1], row[-1][2] + length)
        else:
            row.append((source, first, length))
    return tuple(row)


def plain_cells(row):
    """The cells of a row, one by one."""
    return [(source, first + at) for source, first, many in row for at in range(many)]


class MarksTest(unittest.TestCase):
    def test_is_mark(self):
        for value in RIGHT_MARKS:
            self.assertIs(is_mark(value), True, value)
        for value in WRONG_MARKS:
            self.assertIs(is_mark(value), False, repr(value)[:60])

    def test_the_document_examples(self):
        self.assertEqual(mark_of({"a": (7, 8, 9)}, ("patch", "a", 1, 1, (5, 6))), ("patch", "a", 1, 1, 2, 3))

    def test_marks_of_deeds_and_deeds_of_marks(self):
        told = 0
        for _ in range(600):
            tree, deed = drawn_tree(DRAW), drawn_deed(DRAW, 20)
            reason = refusal(tree, deed)
            if reason is not None:
                wrong.check_raises(self, (errors.Refused, {"reason": reason}), mark_of, (tree, deed))
                continue
            told += 1
            mark = mark_of(tree, deed)
            self.assertEqual(mark, plain_mark(deed, len(tree.get(deed[1], ()))))
            self.assertIs(is_mark(mark), True)
            cells = deed[-1] if deed[0] in ("put", "patch") else ()
            self.assertEqual(deed_of(mark, cells), deed)
            others = tuple((cell + 1) % 997 for cell in cells)
            other = deed_of(mark, others)
            self.assertEqual(mark_of(tree, other), mark)
            self.assertEqual(done(tree, other), plain_deed(tree, other)[0])
        self.assertGreater(told, 200)

    def test_marks_hang_on_no_cell(self):
        self.assertEqual(mark_of({}, ("put", "a", (1,) * 48)), ("put", "a", 48))
        self.assertEqual(mark_of({"a": (1, 2)}, ("put", "a", ())), ("put", "a", 0))
        self.assertEqual(mark_of({"a": (1,) * 996}, ("drop", "a")), ("drop", "a", 996))
        self.assertEqual(mark_of({"a": ()}, ("rename", "a", "b")), ("rename", "a", "b", 0))

    def test_wrong_arguments(self):
        def is_tree(value):
            return isinstance(value, dict) and all(
                wrong.is_name(name) and wrong.is_cells(cells, 996) for name, cells in value.items())
        tree = (errors.InvalidTree, wrong.odd_but(is_tree) + [{"a": (1,) * 997}])
        right = [repr(("put", "a", ())), repr(("drop", "a"))]
        deed = (errors.InvalidDeed, [value for value in wrong.ODD if repr(value) not in right] + list(ODD_DEEDS))
        then = (((errors.Refused, {"reason": ("gone", "b")}), ({"a": ()}, ("drop", "b")), (0, 1)),
                ((errors.Refused, {"reason": ("there", "b")}), ({"a": (), "b": ()}, ("rename", "a", "b")), (0, 1)))
        wrong.check_wrong(self, mark_of, ({"a": ()}, ("drop", "a")), (tree, deed), then)
        mark = (errors.InvalidDeed, list(WRONG_MARKS))
        cells = (errors.InvalidCells, wrong.odd_but(lambda value: wrong.is_cells(value) and len(value) == 2) + [
            (1,), (1, 2, 3), [1, 2], (1, True), (1, 997)])
        wrong.check_wrong(self, deed_of, (("patch", "a", 1, 1, 2, 3), (1, 2)), (mark, cells))
        for mark in (("drop", "a", 3), ("rename", "a", "b", 3), ("put", "a", 0), ("patch", "a", 0, 1, 0, 3)):
            wrong.check_raises(self, errors.InvalidCells, deed_of, (mark, (1,)))
            wrong.check_raises(self, errors.InvalidCells, deed_of, (mark, None))
            self.assertEqual(deed_of(mark, ())[:2], mark[:2])


class SketchesTest(unittest.TestCase):
    def test_is_sketch(self):
        put = ("put", "a", 1)
        for value in ({}, {(1, 1): (None, put)}, {(1, 1): ((1, 2), put)}, {(1, 2): ((1, 1), put), (1, 1): ((1, 2), put)},
                      {(996, 996): (None, ("drop", "a", 3))}, {(1, 1): ((2, 1), ("rename", "a", "b", 3))}):
            self.assertIs(is_sketch(value), True, value)
        for value in [value for value in wrong.ODD if value != {}] + [
            {(1, 1): ((1, 1), put)}, {(1, 1): (None, None)}, {(1, 1): None}, {(1, 1): (None,)}, {(1, 1): (None, put, 1)},
            {(1, 1): [None, put]}, {(0, 1): (None, put)}, {(1, 997): (None, put)}, {(True, 1): (None, put)},
            {(1, 1): ((1, 0), put)}, {(1, 1): ((1, True), put)}, {(1, 1): ([1, 2], put)}, {(1, 1): (0, put)},
            {(1, 1): (False, put)}, {1: (None, put)}, {"a": (None, put)}, {None: (None, put)}, {(1, 1): (None, list(put))},
            [((1, 1), (None, put))], {(1, 1): (None, put), (1, 2): None}, {(1, 1): ("a", put)}, Outline(None),
        ] + [{(1, 1): (None, mark)} for mark in WRONG_MARKS]:
            self.assertIs(is_sketch(value), False, repr(value)[:60])


class RowsTest(unittest.TestCase):
    def test_is_row(self):
        for value in ((), ((BELOW, 0, 1),), ((NEW, 40, 8),), ((BELOW, 0, 1), (BELOW, 2, 1)), ((BELOW, 0, 1), (NEW, 1, 1)),
                      ((BELOW, 0, 1), (("below", "b"), 1, 1)), ((BELOW, 0, 2), (BELOW, 0, 2)), ((BELOW, 995, 1),),
                      ((BELOW, 3, 1), (BELOW, 2, 1)), ((NEW, 0, 1), (("new", (1, 3)), 1, 1)), ((NEW, 0, 1),) * 3,
                      ((BELOW, 10 ** 60 - 1, 10 ** 60 - 1),)):
            self.assertIs(is_row(value), True, value)
        for value in WRONG_ROWS:
            self.assertIs(is_row(value), False, repr(value)[:60])

    def test_rows_parted_and_joined_again(self):
        for _ in range(500):
            row = drawn_row(DRAW)
            cells = plain_cells(row)
            self.assertIs(is_row(row), True)
            self.assertEqual(row_length(row), len(cells))
            cuts = sorted(DRAW.randint(0, len(cells)) for _ in range(DRAW.randint(0, 5)))
            parts = [row_part(row, first, stop) for first, stop in zip([0] + cuts, cuts + [len(cells)])]
            for part, first, stop in zip(parts, [0] + cuts, cuts + [len(cells)]):
                self.assertIs(is_row(part), True)
                self.assertEqual(plain_cells(part), cells[first:stop])
            self.assertEqual(row_joined(tuple(parts)), row)
            for at in range(len(cells)):
                self.assertEqual(origin(row, at), cells[at])
                self.assertEqual(row_part(row, at, at), ())

    def test_equal_cells_have_one_row(self):
        for _ in range(300):
            rows = tuple(drawn_row(DRAW, 3) for _ in range(DRAW.randint(0, 5)))
            told = row_joined(rows)
            self.assertIs(is_row(told), True)
            self.assertEqual(plain_cells(told), [cell for row in rows for cell in plain_cells(row)])
        self.assertEqual(row_joined((((BELOW, 0, 1),), (), ((BELOW, 1, 1),), ((BELOW, 2, 3), (NEW, 5, 1)))),
                         ((BELOW, 0, 5), (NEW, 5, 1)))
        self.assertEqual([row_joined(()), row_joined(((), ())), row_length(())], [(), (), 0])

    def test_wrong_arguments(self):
        row = ((BELOW, 3, 2), (NEW, 0, 2))
        wrong.check_wrong(self, row_length, (row,), (ROW,))
        first = (errors.InvalidNumber, wrong.odd_but(lambda value: wrong.is_int(value, 0, 3)) + [5, -1, True])
        stop = (errors.InvalidNumber, wrong.odd_but(lambda value: wrong.is_int(value, 1, 4)) + [5, 0, True])
        wrong.check_wrong(self, row_part, (row, 1, 3), (ROW, first, stop))
        self.assertEqual([row_part(row, 4, 4), row_part(row, 0, 4), row_part((), 0, 0)], [(), row, ()])
        for first, stop, given in ((3, 2, 2), (5, 5, 5), (4, 5, 5), (5, 4, 5), (2, True, True), (False, 3, False)):
            wrong.check_raises(self, (errors.InvalidNumber, {"given": given}), row_part, (row, first, stop))
        at = (errors.InvalidNumber, wrong.odd_but(lambda value: wrong.is_int(value, 0, 3)) + [4, -1, True])
        wrong.check_wrong(self, origin, (row, 3), (ROW, at))
        wrong.check_raises(self, (errors.InvalidNumber, {"given": 0}), origin, ((), 0))
        rows = (errors.InvalidOperation, [value for value in wrong.ODD if value not in ((), ((),))] + [
            [row], row, (row, None), (row, list(row))] + [(value,) for value in WRONG_ROWS])
        wrong.check_wrong(self, row_joined, ((row, row),), (rows,))

    def test_integers_of_more_than_sixty_digits(self):
        longest = 10 ** 60 - 1
        great = (("below", "a"), 0, longest)
        rows = ((great, great), (great, (("below", "b"), 0, longest), (("new", (1, 2)), 0, 2)))
        for row in rows:
            self.assertGreater(row_length(row), 10 ** 60)
            for number in (10 ** 60, 10 ** 60 + 5, row_length(row), 10 ** 99, -10 ** 60):
                for function, given in ((row_part, (row, number, number)), (row_part, (row, 5, number)),
                                        (row_part, (row, number, 5)), (origin, (row, number))):
                    wrong.check_raises(self, (errors.InvalidNumber, {"given": number}), function, given)
            self.assertEqual(row_part(row, longest, longest), ())
            self.assertEqual(row_part(row, 5, longest), ((("below", "a"), 5, longest - 5),))
            self.assertEqual(origin(row, longest - 1), (("below", "a"), longest - 1))
            self.assertEqual(origin(row, longest), (row[1][0], 0))
        self.assertEqual(row_length(row_joined(rows)), row_length(rows[0]) + row_length(rows[1]))


if __name__ == "__main__":
    unittest.main()
