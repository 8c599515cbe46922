"""Signs, cells and windows."""

import random
import re
import unittest

from stillread import errors
from stillread.text import cells as module
from stillread.text.cells import (
    cells_text, is_text, is_window, pieces, told_cells, window_cells, window_text, windows, windows_across,
    windows_in,
)
from tests import wrong
from tests.examples import run_examples

EXAMPLES = """
>>> [cells_text((7, 0, 996)), told_cells("007000996"), told_cells("997"), told_cells("07"), told_cells("")]
['007000996', (7, 0, 996), None, None, ()]
>>> SEVEN, NINE = window_text((7,) * 40), window_text((9,) * 40)
>>> [len(SEVEN), SEVEN[:7], SEVEN[-4:], is_window(SEVEN), is_window(SEVEN[:-1]), window_cells(NINE) == (9,) * 40]
[122, '#007007', '007;', True, False, True]
>>> [[place for place, cells in windows("a#" + SEVEN + NINE + "#")], pieces("a#" + SEVEN + NINE + "#")]
[[2, 124], (('other', 0, 2), ('window', 2, 124), ('window', 124, 246), ('other', 246, 247))]
>>> [windows_in(SEVEN + NINE, 1, 244) == ((122, (9,) * 40),), windows_across(SEVEN[:50], NINE[50:])[0][0], windows_across(SEVEN[:50], NINE[51:])]
[True, 0, ()]
>>> windows_in(SEVEN, 5, 4)
raises InvalidNumber(4)
"""
DRAW = random.Random(3)
SEVEN, NINE = window_text((7,) * 40), window_text((9,) * 40)


def plain_windows(text):
    """All windows by their pattern, wherever they begin."""
    found = []
    for match in re.finditer("(?=#((?:[0-9]{3}){40});)", text):
        cells = tuple(int(digits) for digits in re.findall("...", match.group(1)))
        if max(cells) <= 996:
            found.append((match.start(), cells))
    return tuple(found)


def drawn_window():
    return window_text(tuple(DRAW.choice((0, 996, DRAW.randrange(997))) for _ in range(40)))


def drawn_text(many):
    """Windows side by side, cut ones, ones with a wrong sign, and other signs amid them."""
    parts = []
    for _ in range(DRAW.randint(0, many)):
        window = drawn_window()
        at = DRAW.randrange(122)
        parts.append(DRAW.choice((
            window, window, window[:at], window[at:], window[:at] + DRAW.choice("#;019x") + window[at + 1:],
            "".join(DRAW.choices("#;0129 ab", k=DRAW.randint(0, 9))), "#" + "9" * 120 + ";",
            "007" * DRAW.randint(0, 40),
        )))
    return "".join(parts)


class CellsTest(unittest.TestCase):
    def test_examples(self):
        run_examples(self, EXAMPLES, {**vars(errors), **vars(module)})

    def test_constants(self):
        self.assertEqual((module.MOST_SIGNS, module.WINDOW_SIGNS, module.WINDOW_CELLS, module.MOST_DIGITS),
                         (60000, 122, 40, 20000))

    def test_texts(self):
        for value in wrong.ODD:
            self.assertIs(is_text(value), wrong.is_text(value), repr(value)[:60])
        self.assertEqual([is_text("".join(map(chr, range(32, 127)))), is_text(" " * 60000), is_text(" " * 60001)],
                         [True, True, False])
        for code in list(range(32)) + [127]:
            self.assertIs(is_text(f"a{chr(code)}b"), False)
        for code in (128, 160, 233, 1633):
            self.assertIs(is_text(f"a{chr(code)}b"), False)
            self.assertIs(is_window(SEVEN[:3] + chr(code) + SEVEN[4:]), False)

    def test_is_window(self):
        for value in wrong.ODD:
            self.assertIs(is_window(value), False, repr(value)[:60])
        self.assertIs(is_window(SEVEN + " "), False)
        self.assertIs(is_window(SEVEN[:-1] + "#"), False)
        self.assertIs(is_window(";" + SEVEN[1:]), False)
        self.assertIs(is_window("#" + "996" * 40 + ";"), True)
        self.assertIs(is_window("#" + "996" * 39 + "997;"), False)
        self.assertIs(is_window(SEVEN[:9] + " " + SEVEN[10:]), False)
        self.assertIs(is_window(SEVEN[:9] + "+" + SEVEN[10:]), False)
        self.assertIs(is_window(SEVEN[:9] + "_" + SEVEN[10:]), False)

    def test_digits_go_both_ways(self):
        for many in (0, 1, 2, 40, 333, 20000):
            cells = tuple(DRAW.randrange(997) for _ in range(many))
            text = cells_text(cells)
            self.assertEqual(text, "".join(str(cell).zfill(3) for cell in cells))
            self.assertEqual(told_cells(text), cells)

    def test_digits_of_no_cells(self):
        for text in ("0", "00", "0000", "00a", "-01", "+01", " 01", "01 ", "1_0", "998", "999", "000997", "0.1"):
            self.assertIs(told_cells(text), None, text)
        self.assertIs(told_cells("996" * 19999 + "997"), None)

    def test_window_cells(self):
        for _ in range(50):
            cells = tuple(DRAW.randrange(997) for _ in range(40))
            self.assertEqual(window_cells(window_text(cells)), cells)
        for text in ("", "#;", SEVEN[1:], SEVEN + ";", "#" + SEVEN, SEVEN + SEVEN, "#" + "997" * 40 + ";"):
            self.assertIs(window_cells(text), None)

    def test_wrong_arguments(self):
        text = (errors.InvalidText, wrong.odd_but(wrong.is_text))
        for function in (told_cells, window_cells, windows, pieces):
            wrong.check_wrong(self, function, ("a",), (text,))
        cells = wrong.odd_but(lambda value: wrong.is_cells(value, 20000)) + [(0,) * 20001]
        wrong.check_wrong(self, cells_text, ((0,) * 20000,), ((errors.InvalidCells, cells),))
        forty = list(wrong.ODD) + [(0,) * 39, (0,) * 41, (0,) * 39 + (997,), (0,) * 39 + (True,), [0] * 40]
        wrong.check_wrong(self, window_text, ((0,) * 40,), ((errors.InvalidCells, forty),))
        begin = wrong.odd_but(lambda value: wrong.is_int(value, 0, 244)) + [245]
        end = wrong.odd_but(lambda value: wrong.is_int(value, 9, 244)) + [8, 245]
        numbers = ((errors.InvalidNumber, begin), (errors.InvalidNumber, end))
        wrong.check_wrong(self, windows_in, (SEVEN + NINE, 9, 244), (text,) + numbers)
        then = (((errors.TooMany, {"most": 60000}), ("a" * 60000, "b"), (0,)),
                ((errors.TooMany, {"most": 60000}), ("a", "b" * 60000), (1,)))
        wrong.check_wrong(self, windows_across, ("a", "b" * 59999), (text, text), then)


class WindowsTest(unittest.TestCase):
    def test_all_that_stand(self):
        for _ in range(150):
            text = drawn_text(12)
            self.assertEqual(windows(text), plain_windows(text))

    def test_at_the_very_ends_and_side_by_side(self):
        self.assertEqual([place for place, cells in windows(SEVEN + NINE + SEVEN)], [0, 122, 244])
        self.assertEqual([place for place, cells in windows("x" + SEVEN + NINE[1:] + "##" + NINE)], [1, 246])
        self.assertEqual(windows(SEVEN[1:]) + windows(SEVEN[:-1]) + windows(""), ())
        self.assertEqual([len(windows("#" * 60000)), len(windows(SEVEN * 491)), len(windows("x" * 98 + SEVEN * 491))],
                         [0, 491, 491])
        self.assertEqual(windows("x" * 98 + SEVEN * 491)[-1], (59878, (7,) * 40))

    def test_pieces_make_the_text(self):
        for _ in range(100):
            text = drawn_text(8)
            parts = pieces(text)
            self.assertEqual("".join(text[begin:end] for word, begin, end in parts), text)
            self.assertTrue(all(begin < end for word, begin, end in parts))
            told = [begin for word, begin, end in parts if word == "window"]
            self.assertEqual(told, [place for place, cells in plain_windows(text)])
            self.assertTrue(all(end - begin == 122 for word, begin, end in parts if word == "window"))
            self.assertFalse(any(one[0] == other[0] == "other" for one, other in zip(parts, parts[1:])))
            self.assertTrue(all(word in ("window", "other") for word, begin, end in parts))
        self.assertEqual([pieces(""), pieces("a"), pieces(SEVEN)],
                         [(), (("other", 0, 1),), (("window", 0, 122),)])

    def test_windows_in_stretches(self):
        for _ in range(60):
            text = drawn_text(8)
            begin = DRAW.randint(0, len(text))
            for end in {begin, len(text), DRAW.randint(begin, len(text)), min(len(text), begin + 122)}:
                found = windows_in(text, begin, end)
                self.assertEqual(found, tuple(pair for pair in windows(text) if begin <= pair[0] <= end - 122))
                cut = tuple((place + begin, cells) for place, cells in windows(text[begin:end]))
                self.assertEqual(found, cut)

    def test_stretches_cut_by_one_sign(self):
        text = SEVEN + NINE
        self.assertEqual([len(windows_in(text, *stretch)) for stretch in
                          ((0, 244), (1, 244), (0, 243), (122, 244), (123, 244), (0, 122), (0, 121), (244, 244))],
                         [2, 1, 1, 1, 0, 1, 0, 0])

    def test_windows_across_joints(self):
        for _ in range(100):
            text = drawn_text(6)
            at = DRAW.randint(0, len(text))
            one, other = text[:at], text[at:]
            across = windows_across(one, other)
            self.assertLessEqual(len(across), 1)
            self.assertEqual(across, tuple(pair for pair in windows(text) if pair[0] < at < pair[0] + 122))
            shifted = tuple((place + at, cells) for place, cells in windows(other))
            self.assertEqual(windows(text), windows(one) + across + shifted)

    def test_each_joint_of_one_window(self):
        for at in range(123):
            wanted = ((0, (7,) * 40),) if 0 < at < 122 else ()
            self.assertEqual(windows_across(SEVEN[:at], SEVEN[at:]), wanted)
            far = windows_across(NINE + "x" + SEVEN[:at], SEVEN[at:] + NINE)
            self.assertEqual(far, ((123, (7,) * 40),) if wanted else ())

    def test_what_is_not_true(self):
        self.assertEqual(windows("##;"), ())
        self.assertEqual(len(windows(SEVEN[:5] + SEVEN[5:])), 1)
        self.assertIs(is_window("#" + "9" + SEVEN[2:]), True)
        self.assertIs(is_window("#" + "997" + SEVEN[4:]), False)


if __name__ == "__main__":
    unittest.main()
