"""Cells, and names with their cells."""

import itertools
import random
import unittest

from stillread import errors
from stillread.base import names
from stillread.base.names import cells_name, is_cell, is_cells, is_name, name_cells
from tests import wrong
from tests.examples import run_examples

LETTERS = "abcdefghijklmnopqrstuvwxyz"
EXAMPLES = """
>>> [name_cells("a"), name_cells("za"), name_cells("abcd"), cells_name(27, 0), cells_name(703, 0), cells_name(27, 1), cells_name(728, 729), is_cells((0, 996)), is_name("")]
[(27, 0), (703, 0), (29, 85), 'a', 'za', None, None, True, False]
>>> cells_name(997, 0)
raises InvalidNumber(997)
"""


class NamesTest(unittest.TestCase):
    def test_examples(self):
        run_examples(self, EXAMPLES, {**vars(errors), **vars(names)})

    def test_constants(self):
        self.assertEqual((names.PRIME, names.MAX_CELL, names.MAX_NAME), (997, 996, 4))

    def test_judges_of_odd_values(self):
        for value in wrong.ODD:
            self.assertIs(is_cell(value), wrong.is_cell(value), repr(value)[:60])
            self.assertIs(is_cells(value), wrong.is_cells(value), repr(value)[:60])
            self.assertIs(is_name(value), wrong.is_name(value), repr(value)[:60])

    def test_cells_at_the_edges(self):
        self.assertEqual([is_cell(value) for value in (0, 996, 997, -1, True, False)],
                         [True, True, False, False, False, False])
        self.assertIs(is_cells((0,) * 70000), True)
        self.assertIs(is_cells((0, 997)), False)
        self.assertIs(is_cells([0]), False)

    def test_names_at_the_edges(self):
        self.assertEqual([is_name(value) for value in ("a", "zzzz", "zzzzz", "", "aB", "a b", "a`", "a{")],
                         [True, True, False, False, False, False, False, False])

    def test_pairs_go_both_ways(self):
        draw = random.Random(1)
        drawn = ["".join(draw.choices(LETTERS, k=draw.randint(1, 4))) for _ in range(2000)]
        for name in drawn + list(LETTERS) + ["aa", "zzzz", "aaaa", "zzz"]:
            self.assertEqual(cells_name(*name_cells(name)), name)

    def test_sequence_of_pairs_is_that_of_names(self):
        few = ["".join(letters) for many in (1, 2, 3, 4) for letters in itertools.product("abyz", repeat=many)]
        few = sorted(few)
        pairs = [name_cells(name) for name in few]
        self.assertEqual(pairs, sorted(set(pairs)))

    def test_pairs_of_no_name(self):
        told = {name_cells("".join(letters)): True for many in (1, 2, 3) for letters in
                itertools.product(LETTERS, repeat=many)}
        for first in range(0, 997):
            for second in (0, 1, 26, 27, 28, 53, 54, 702, 728, 729, 996):
                name = cells_name(first, second)
                if name is None:
                    self.assertNotIn((first, second), told)
                else:
                    self.assertTrue(wrong.is_name(name))
                    self.assertEqual(name_cells(name), (first, second))

    def test_each_three_letters_are_found(self):
        for letters in itertools.product("amz", LETTERS, LETTERS):
            name = "".join(letters)
            numbers = [LETTERS.index(letter) + 1 for letter in name]
            self.assertEqual(name_cells(name), (27 * numbers[0] + numbers[1], 27 * numbers[2]))
            self.assertEqual(cells_name(27 * numbers[0] + numbers[1], 27 * numbers[2]), name)

    def test_wrong_arguments(self):
        wrong.check_wrong(self, name_cells, ("a",), ((errors.InvalidName, wrong.odd_but(wrong.is_name)),))
        odd = (errors.InvalidNumber, wrong.odd_but(wrong.is_cell))
        wrong.check_wrong(self, cells_name, (27, 0), (odd, odd))


if __name__ == "__main__":
    unittest.main()
