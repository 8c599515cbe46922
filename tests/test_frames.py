"""Frames: written, found, apart, with wrong cells, and spliced."""

import random
import unittest

from stillread import errors
from stillread.text import frames as module
from stillread.text.cells import window_cells, window_text
from stillread.text.frames import (
    agreeing, bodies_in, found_frames, frame_cells, is_other_body, made_frame, other_body, spliced, told_frame,
)
from tests import wrong
from tests.examples import run_examples

EXAMPLES = """
>>> ZERO, ONES, LAST = (0,) * 20, (1,) * 20, (0,) * 19 + (5,)
>>> [made_frame(ONES) == "#" + "001" * 40 + ";", frame_cells(ZERO) == (0,) * 40, told_frame(made_frame(LAST)) == LAST, frame_cells(LAST)[:21].count(0), agreeing(ZERO, LAST) == tuple(range(19))]
[True, True, True, 19, True]
>>> TEXT = made_frame(ZERO) + "x#;" + made_frame(LAST) + made_frame(ZERO)
>>> [[place for place, body in found_frames(TEXT)], bodies_in(TEXT) == (ZERO, LAST), found_frames(TEXT[1:])[0][0], found_frames(TEXT[:-1]) == found_frames(TEXT)[:2], told_frame(TEXT)]
[[0, 125, 247], True, 124, True, None]
>>> [agreeing(ZERO, ONES), is_other_body(ONES, (0, 39), other_body(ONES, (0, 39))), told_frame(spliced(ZERO, LAST, 58)) == LAST, told_frame(spliced(ZERO, LAST, 61)), told_frame("#" + "000" * 39 + "001;")]
[(), True, True, None, None]
>>> other_body(ZERO, tuple(range(20)))
raises InvalidOperation
"""
DRAW = random.Random(4)
PLACES = [i * i % 997 for i in range(1, 41)]
ZERO, ONES, LAST = (0,) * 20, (1,) * 20, (0,) * 19 + (5,)


def plain_cells(body):
    """The 40 values by Lagrange's formula."""
    values = []
    for cell in PLACES:
        total = 0
        for place, value in zip(PLACES, body):
            for other in PLACES[:20]:
                if other != place:
                    value = value * (cell - other) * pow(place - other, -1, 997) % 997
            total += value
        values.append(total % 997)
    return tuple(values)


def drawn_body():
    return tuple(DRAW.choice((0, 1, 996, DRAW.randrange(997))) for _ in range(20))


def is_body_like(value):
    return wrong.is_cells(value) and len(value) == 20


def are_indices(value):
    return isinstance(value, tuple) and all(wrong.is_int(index, 0, 39) for index in value) and list(
        value) == sorted(set(value))


def with_wrong_cells(text, indices):
    """The text with other digits, of cells or not, for the cells at the indices."""
    for index in indices:
        begin = 1 + 3 * index
        own = text[begin:begin + 3]
        others = [digits for digits in (f"{DRAW.randrange(1000):03d}", "000", "996", "999") if digits != own]
        text = text[:begin] + others[0] + text[begin + 3:]
    return text


class FramesTest(unittest.TestCase):
    def test_examples(self):
        run_examples(self, EXAMPLES, {**vars(errors), **vars(module)})

    def test_constants(self):
        self.assertEqual((module.FRAME_CELLS, module.BODY_CELLS), (40, 20))
        self.assertEqual(len(set(PLACES)), 40)

    def test_cells_of_frames(self):
        for body in [drawn_body() for _ in range(20)] + [LAST]:
            cells = frame_cells(body)
            self.assertEqual(cells, plain_cells(body))
            self.assertEqual(made_frame(body), window_text(cells))
            self.assertEqual(told_frame(made_frame(body)), body)

    def test_each_twenty_cells_tell_the_body(self):
        for _ in range(20):
            body = drawn_body()
            cells = plain_cells(body)
            some = DRAW.sample(range(40), 20)
            for at in range(20):
                total = 0
                for index in some:
                    value = cells[index]
                    for other in some:
                        if other != index:
                            value = value * (PLACES[at] - PLACES[other]) * pow(
                                PLACES[index] - PLACES[other], -1, 997) % 997
                    total += value
                self.assertEqual(total % 997, body[at])

    def test_told_frame_of_no_frame(self):
        for text in ("", "x", made_frame(LAST)[1:], made_frame(LAST) + ";", made_frame(ZERO)[:-4] + "001;",
                     "#" + "997" * 40 + ";", made_frame(ONES) * 2):
            self.assertIs(told_frame(text), None)

    def test_unlike_bodies_are_far_apart(self):
        for _ in range(60):
            one, other = drawn_body(), drawn_body()
            both = agreeing(one, other)
            cells, others = plain_cells(one), plain_cells(other)
            self.assertEqual(both, tuple(at for at in range(40) if cells[at] == others[at]))
            self.assertLessEqual(len(both), 19)
        self.assertEqual(agreeing(ONES, ONES), tuple(range(40)))

    def test_other_bodies_agree_at_just_these(self):
        for many in list(range(20)) + [19] * 5:
            indices, body = tuple(sorted(DRAW.sample(range(40), many))), drawn_body()
            other = other_body(body, indices)
            self.assertTrue(is_body_like(other))
            self.assertEqual(agreeing(body, other), indices)
            self.assertIs(is_other_body(body, indices, other), True)
            self.assertIs(is_other_body(body, indices, body), False)
            if many:
                self.assertIs(is_other_body(body, indices[1:], other), False)

    def test_is_other_body_takes_every_value(self):
        for value in wrong.ODD + (list(LAST), LAST[1:], LAST + (0,), (True,) * 20, (997,) * 20):
            self.assertIs(is_other_body(ZERO, (), value), False, repr(value)[:60])
        self.assertIs(is_other_body(ZERO, (), ONES), True)
        self.assertIs(is_other_body(ZERO, (), (False,) + (1,) * 19), False)
        self.assertIs(is_other_body(ZERO, tuple(range(19)), LAST), True)
        self.assertIs(is_other_body(ZERO, tuple(range(18)), LAST), False)

    def test_at_most_twenty_wrong_cells_make_no_other_frame(self):
        for many in (1, 2, 10, 19, 20, 20, 20):
            for _ in range(20):
                body = drawn_body()
                text = with_wrong_cells(made_frame(body), DRAW.sample(range(40), many))
                self.assertIs(told_frame(text), None)

    def test_twenty_one_wrong_cells_can_make_another_one(self):
        body = drawn_body()
        indices = tuple(sorted(DRAW.sample(range(40), 19)))
        other = other_body(body, indices)
        cells, others = frame_cells(body), frame_cells(other)
        self.assertEqual(sum(one != two for one, two in zip(cells, others)), 21)
        mixed = window_text(tuple(cells[at] if at in indices else others[at] for at in range(40)))
        self.assertEqual(told_frame(mixed), other)

    def test_splices_are_one_of_both_or_none(self):
        for _ in range(4):
            one = drawn_body()
            other = other_body(one, tuple(sorted(DRAW.sample(range(40), DRAW.randint(0, 19)))))
            for at in range(123):
                told = told_frame(spliced(one, other, at))
                self.assertIn(told, (None, one, other))
            self.assertEqual([told_frame(spliced(one, other, at)) for at in (0, 1, 121, 122)],
                             [other, other, one, one])

    def test_splices_sign_by_sign(self):
        one, other = drawn_body(), drawn_body()
        for at in (0, 1, 2, 60, 61, 62, 121, 122):
            self.assertEqual(spliced(one, other, at), made_frame(one)[:at] + made_frame(other)[at:])

    def test_two_borders_can_make_a_frame_that_nobody_wrote(self):
        other = other_body(ZERO, tuple(range(10, 29)))
        cells, wanted = frame_cells(ZERO), frame_cells(other)
        mixed = wanted[:10] + cells[10:29] + wanted[29:]
        self.assertEqual(told_frame(window_text(mixed)), other)

    def test_wrong_arguments(self):
        body = (errors.InvalidBody, wrong.odd_but(is_body_like) + [LAST[1:], LAST + (0,), (997,) * 20, (True,) * 20,
                                                                   list(LAST)])
        text = (errors.InvalidText, wrong.odd_but(wrong.is_text))
        indices = (errors.InvalidOperation, wrong.odd_but(are_indices) + [
            (40,), (3, 3), (4, 3), (True, 2), [1], (-1,)])
        at = (errors.InvalidNumber, wrong.odd_but(lambda value: wrong.is_int(value, 0, 122)) + [123])
        for function in (frame_cells, made_frame):
            wrong.check_wrong(self, function, (LAST,), (body,))
        for function in (told_frame, found_frames, bodies_in):
            wrong.check_wrong(self, function, ("a",), (text,))
        wrong.check_wrong(self, agreeing, (LAST, ONES), (body, body))
        wrong.check_wrong(self, spliced, (LAST, ONES, 122), (body, body, at))
        then = ((errors.InvalidOperation, (LAST, tuple(range(20))), (0,)),
                (errors.InvalidOperation, (LAST, tuple(range(40))), (0,)))
        wrong.check_wrong(self, other_body, (LAST, (0, 39)), (body, indices), then)
        then = tuple((error, given + (ONES,), places) for error, given, places in then)
        wrong.check_wrong(self, is_other_body, (LAST, tuple(range(19)), None), (body, indices, None), then)


class FoundTest(unittest.TestCase):
    def drawn_row(self):
        """A row of bodies, windows that are no frames, and other signs: the text, and what is in it."""
        text, told = "", []
        for _ in range(DRAW.randint(0, 10)):
            part = DRAW.choice((0, 0, 0, 1, 2, 3))
            if part == 0:
                body = DRAW.choice((drawn_body(), ONES, LAST))
                told.append((len(text), body))
                text += made_frame(body)
            elif part == 1:
                text += window_text(tuple(DRAW.randrange(997) for _ in range(40)))
            elif part == 2:
                text += made_frame(drawn_body())[:DRAW.randint(0, 121)]
            else:
                text += "".join(DRAW.choices("#;019 x", k=DRAW.randint(0, 5)))
        return text, tuple(told)

    def test_found_in_rows_of_texts(self):
        for _ in range(60):
            text, told = self.drawn_row()
            self.assertEqual(found_frames(text), told)
            self.assertEqual(bodies_in(text), tuple(sorted({body for place, body in told})))

    def test_found_in_stretches_and_across_joints(self):
        for _ in range(60):
            text, told = self.drawn_row()
            begin = DRAW.randint(0, len(text))
            end = DRAW.randint(begin, len(text))
            self.assertEqual(found_frames(text[begin:end]),
                             tuple((place - begin, body) for place, body in told if begin <= place <= end - 122))
            across = [pair for pair in told if pair[0] < begin < pair[0] + 122]
            both = found_frames(text[:begin]) + tuple(across) + tuple(
                (place + begin, body) for place, body in found_frames(text[begin:]))
            self.assertEqual(found_frames(text), both)
            self.assertLessEqual(len(across), 1)

    def test_a_whole_text(self):
        bodies = [tuple(DRAW.randrange(997) for _ in range(20)) for _ in range(491)]
        text = "".join(made_frame(body) for body in bodies)
        self.assertEqual(len(text), 59902)
        self.assertEqual(found_frames(text), tuple((122 * at, body) for at, body in enumerate(bodies)))
        self.assertEqual(bodies_in(text), tuple(sorted(bodies)))

    def test_bodies_once_each(self):
        text = made_frame(ONES) + made_frame(LAST) + made_frame(ONES)
        self.assertEqual(bodies_in(text), (LAST, ONES))
        self.assertEqual(bodies_in(""), ())

    def test_what_is_not_true(self):
        text = made_frame(LAST) + "x" + made_frame(ONES)
        self.assertEqual([place for place, body in found_frames(text)], [0, 123])
        bent = made_frame(LAST)[:5] + "1" + made_frame(LAST)[6:]
        self.assertIsNot(window_cells(bent), None)
        self.assertEqual(found_frames(bent), ())


if __name__ == "__main__":
    unittest.main()
