"""Bodies, marks, payloads, and all frames of saves."""

import itertools
import random
import unittest

from stillread import errors
from stillread.base.polys import through, value_at
from stillread.lots import spread as module
from stillread.lots.spread import all_frames, frames_of, is_body, marks, payloads, told_body, with_payload
from stillread.plain.histories import is_history, versions
from tests import wrong
from tests.bodies import (
    drawn_cells, drawn_length, drawn_save, history_with, plain_is_body, plain_k, plain_mark, plain_payloads,
)
from tests.examples import run_examples
from tests.stories import drawn_history
from tests.test_histories import APART, FIRST, FORMLESS, NEXT, STORY, STORY_ROWS

EXAMPLES = STORY_ROWS + """
>>> [len(all_frames(9, STORY)), frames_of(9, FIRST, 0)[1], told_body(frames_of(9, NEXT, 3)[0])]
[5, (9, 1, 1, 1, 2, 0, 0, 0, 27, 0, 0, 0, 3, 0, 5, 6, 7, 0, 0, 0), (9, (1, 2), 0, 2, (1, 1), ('patch', 'a', 1, 1, 2, 3), (8, 9, 0, 0, 0, 0))]
>>> [payloads((1, 2, 3, 4, 5, 6, 7), 4)[2:], payloads((), 1), payloads((5,), 2)]
[((13, 995, 994, 993, 992, 991), (19, 993, 991, 989, 987, 985)), ((0, 0, 0, 0, 0, 0),), ((5, 0, 0, 0, 0, 0), (5, 0, 0, 0, 0, 0))]
>>> [told_body(frames_of(9, APART, 3)[0])[5], marks(frames_of(9, APART, 3)[0]), is_body((9, 1, 2, 0, 1, 1, 5) + (0, 27, 0, 0, 0, 0, 0) + (0,) * 6)]
[('rename', 'a', 'b', 3), (9, 2, 1, 1, 1, 1, 3, 27, 0, 54, 0, 0, 3), False]
>>> frames_of(9, NEXT, 1000)
raises InvalidNumber(1000)
"""
DRAW = random.Random(60)
BODY = frames_of(9, NEXT, 3)[0]
LONG = frames_of(9, (1, 1, None, ("put", "a", tuple(range(1, 8))), 4), 0)
ODD_BODIES = [
    list(BODY), BODY[:-1], BODY + (0,), (0,) * 20, (1,) * 20, (996,) * 20, (True,) + BODY[1:], BODY[:5] + (True,) + BODY[6:],
    BODY[:3] + (False,) + BODY[4:], BODY[:-1] + (False,), BODY[:-1] + (1,), BODY[:3] + (2,) + BODY[4:],
    BODY[:14] + (997,) + BODY[15:], BODY[:14] + (-1,) + BODY[15:], BODY[:14] + (None,) + BODY[15:], (BODY,),
]
ANY_BODY = (errors.InvalidBody, list(wrong.ODD) + ODD_BODIES)


def bent_values(body, at):
    return {0, 1, 2, 3, 4, 27, 48, 49, 728, 729, 996, body[at] + 1, body[at] - 1, DRAW.randrange(997)} & set(range(997))


class BodiesTest(unittest.TestCase):
    def test_examples(self):
        run_examples(self, EXAMPLES, {**vars(errors), **vars(module)})

    def test_constants(self):
        self.assertEqual((module.BODY, module.ROW, module.MAX_NEW, module.MOST_FRAMES), (20, 6, 48, 16))

    def test_is_body_takes_every_value(self):
        for value in list(wrong.ODD) + ODD_BODIES:
            self.assertIs(is_body(value), False, repr(value)[:60])
        self.assertIs(is_body(BODY), True)

    def test_frames_of_drawn_saves_are_bodies(self):
        for _ in range(300):
            save, ahead = drawn_save(DRAW)
            bodies = frames_of(DRAW.choice((1, 9, 996)), save, ahead)
            self.assertEqual(len(bodies), save[4])
            for body in bodies:
                self.assertTrue(plain_is_body(body))
                self.assertIs(is_body(body), True)

    def test_bodies_bent_at_one_cell(self):
        counts = {True: 0, False: 0}
        for _ in range(150):
            save, ahead = drawn_save(DRAW)
            body = DRAW.choice(frames_of(9, save, ahead))
            for at in range(20):
                for cell in bent_values(body, at):
                    bent = body[:at] + (cell,) + body[at + 1:]
                    self.assertIs(is_body(bent), plain_is_body(bent), bent)
                    counts[plain_is_body(bent)] += 1
        self.assertGreater(min(counts.values()), 3000)

    def test_bodies_bent_at_two_cells(self):
        for _ in range(3000):
            save, ahead = drawn_save(DRAW)
            body = list(DRAW.choice(frames_of(9, save, ahead)))
            for at in DRAW.sample(range(20), 2):
                body[at] = DRAW.choice(sorted(bent_values(body, at)))
            self.assertIs(is_body(tuple(body)), plain_is_body(tuple(body)), body)

    def test_each_body_is_a_frame_of_some_history(self):
        for _ in range(60):
            save, ahead = drawn_save(DRAW)
            body = DRAW.choice(frames_of(9, save, ahead))
            history = history_with(save, ahead)
            self.assertTrue(is_history(history))
            self.assertIn(body, all_frames(9, history))
        free = LONG[3][:14] + (500,) + LONG[3][15:]
        self.assertIs(is_body(free), True)
        column = through(((1, 0), (3, 500)))
        cells = (value_at(column, 0), 2, 3, 4, 5, 6, value_at(column, 1))
        self.assertEqual(cells[6], 0)
        self.assertIs(is_body(free[:15] + (1,) + free[16:]), True)

    def test_bodies_at_the_edges(self):
        for length, k in ((0, 1), (6, 1), (7, 2), (12, 2), (42, 7), (43, 8), (48, 8)):
            head = (9, 1, 1)
            for n in range(0, 18):
                body = head + (0, n, 0, 0, 0, 27, 0, 0, 0, length, 0) + (0,) * 6
                self.assertIs(is_body(body), k <= n <= 16)
                for index in (n - 1, n):
                    body = head + (max(index, 0), n, 0, 0, 0, 27, 0, 0, 0, length, 0) + (0,) * 6
                    self.assertIs(is_body(body), k <= n <= 16 and index < n)
        self.assertIs(is_body((9, 1, 1, 0, 16, 0, 0, 0, 27, 0, 0, 0, 49, 0) + (0,) * 6), False)
        for hand, number, right in ((2, 4, True), (2, 5, False), (2, 6, False), (3, 5, True), (3, 996, True),
                                    (1, 996, True), (0, 4, False), (2, 0, False), (0, 0, True)):
            self.assertIs(is_body((9, 2, 5, 0, 1, hand, number) + (0, 27, 0, 0, 0, 0, 0) + (0,) * 6), right)
        for ahead, right in ((0, True), (996, True)):
            for kind in (2, 3):
                body = (9, 2, 5, 0, 1, 3, 3, kind, 27, 0, 54 * (kind - 2), 0, 0, ahead) + (0,) * 6
                self.assertIs(is_body(body), right)
                self.assertIs(is_body(body[:5] + (0, 0) + body[7:]), False)
        for at, out, length, ahead, right in (
            (0, 0, 48, 948, True), (0, 0, 48, 949, False), (949, 1, 48, 949, False), (948, 1, 48, 949, True),
            (5, 0, 0, 5, True), (6, 0, 0, 5, False), (5, 1, 0, 5, False), (0, 996, 0, 996, True), (0, 0, 0, 996, True),
        ):
            body = (9, 2, 5, 0, 8, 3, 3, 1, 27, 0, at, out, length, ahead) + (0,) * 6
            self.assertIs(is_body(body), right, body)

    def test_filling(self):
        for length in (0, 1, 5, 6, 7, 11, 12, 43, 47, 48):
            k = plain_k(length)
            for index, column in itertools.product(range(k + 1), range(6)):
                payload = tuple(7 * (c == column) for c in range(6))
                body = (9, 1, 1, index, 16, 0, 0, 0, 27, 0, 0, 0, length, 0) + payload
                filled = 6 * index + column >= length if index < k else k == 1 and column >= length
                self.assertIs(is_body(body), not filled, body)

    def test_told_body_and_marks(self):
        for _ in range(200):
            save, ahead = drawn_save(DRAW)
            hand, number, base, deed, n = save
            for index, body in enumerate(frames_of(77, save, ahead)):
                payload = plain_payloads(deed[-1] if deed[0] in ("put", "patch") else (), n)[index]
                wanted = (77, (hand, number), index, n, base, plain_mark(deed, ahead), payload)
                self.assertEqual(repr(told_body(body)), repr(wanted))
                self.assertEqual(marks(body), body[:3] + body[4:14])
                self.assertEqual(len(marks(body)), 13)

    def test_with_payload(self):
        for _ in range(200):
            save, ahead = drawn_save(DRAW)
            body = DRAW.choice(frames_of(9, save, ahead))
            index, payload = DRAW.randrange(save[4]), DRAW.choice((drawn_cells(DRAW, 6), (0,) * 6, (1, 0, 0, 0, 0, 0)))
            other = body[:3] + (index,) + body[4:14] + payload
            if plain_is_body(other):
                self.assertEqual(with_payload(body, index, payload), other)
            else:
                wrong.check_raises(self, errors.InvalidOperation, with_payload, (body, index, payload))

    def test_what_is_not_true(self):
        self.assertEqual(payloads((5,), 2)[0], payloads((5,), 2)[1])
        self.assertEqual(payloads((0,) * 7, 16)[9], (0,) * 6)
        put = frames_of(9, (1, 2, (1, 1), ("put", "a", (1,)), 1), 0)[0]
        self.assertEqual(told_body(put)[5], ("put", "a", 1))

    def test_wrong_arguments(self):
        for function in (told_body, marks):
            wrong.check_wrong(self, function, (BODY,), (ANY_BODY,))
        index = (errors.InvalidNumber, wrong.odd_but(lambda value: wrong.is_int(value, 0, 1)) + [2, -1])
        payload = (errors.InvalidCells, wrong.odd_but(lambda value: False) + [
            (0,) * 5, (0,) * 7, [0] * 6, (True,) * 6, (0, 0, 0, 0, 0, 997), (None,) * 6])
        then = ((errors.InvalidOperation, (BODY, 1, (0, 0, 1, 0, 0, 0)), (0, 1, 2)),)
        wrong.check_wrong(self, with_payload, (BODY, 1, (0,) * 6), (ANY_BODY, index, payload), then)


class PayloadsTest(unittest.TestCase):
    def test_drawn_payloads(self):
        for _ in range(300):
            length = drawn_length(DRAW)
            cells, n = drawn_cells(DRAW, length), DRAW.randint(plain_k(length), 16)
            told = payloads(cells, n)
            self.assertEqual(told, plain_payloads(cells, n))
            self.assertEqual(told[:plain_k(length)], plain_payloads(cells, plain_k(length)))

    def test_any_k_payloads_tell_the_new_cells_and_all_others(self):
        for _ in range(100):
            length = drawn_length(DRAW)
            cells, k = drawn_cells(DRAW, length), plain_k(length)
            rows = payloads(cells, 16)
            some = DRAW.sample(range(16), k)
            for column in range(6):
                poly = through(tuple((index, rows[index][column]) for index in some))
                self.assertEqual([value_at(poly, index) for index in range(16)], [row[column] for row in rows])
                stood = [value_at(poly, i) for i in range(k) if 6 * i + column < length]
                self.assertEqual(stood, list(cells[column::6]))

    def test_unlike_cells_have_at_most_k_less_1_equal_payloads(self):
        for _ in range(100):
            length = DRAW.choice((1, 6, 7, 20, 48))
            one, other, k = drawn_cells(DRAW, length), drawn_cells(DRAW, length), plain_k(length)
            rows, others = payloads(one, 16), payloads(other, 16)
            for column in range(6):
                if one[column::6] != other[column::6]:
                    equal = [x[column] == y[column] for x, y in zip(rows, others)]
                    self.assertLess(sum(equal), k)

    def test_edges(self):
        self.assertEqual(payloads((), 16), ((0,) * 6,) * 16)
        for length, k in ((0, 1), (6, 1), (7, 2), (42, 7), (43, 8), (48, 8)):
            cells = tuple(range(1, length + 1))
            self.assertEqual([len(payloads(cells, n)) for n in (k, 16)], [k, 16])
            for n in (k - 1, 17, 0, -1):
                wrong.check_raises(self, (errors.InvalidNumber, {"given": n}), payloads, (cells, n))

    def test_wrong_arguments(self):
        cells = (errors.InvalidCells, wrong.odd_but(lambda value: wrong.is_cells(value, 48)) + [
            (0,) * 49, [1, 2], (1, True), (1, None), (997,)])
        n = (errors.InvalidNumber, wrong.odd_but(lambda value: wrong.is_int(value, 2, 16)) + [1, 17, True])
        wrong.check_wrong(self, payloads, ((0,) * 7, 2), (cells, n))


class FramesTest(unittest.TestCase):
    def test_frames_of_drawn_histories(self):
        for _ in range(60):
            history, trees = drawn_history(DRAW, 12)
            bodies = []
            for hand, number, base, deed, n in history:
                ahead = 0 if deed[0] == "put" else len(trees[base][deed[1]])
                told = frames_of(8, (hand, number, base, deed, n), ahead)
                self.assertEqual([body[3] for body in told], list(range(n)))
                bodies.extend(told)
            self.assertEqual(all_frames(8, history), tuple(sorted(bodies)))
            self.assertEqual(trees, versions(history))

    def test_all_frames_of_nothing_and_of_many(self):
        self.assertEqual(all_frames(9, ()), ())
        many = tuple((1, number, (1, number - 1) if number > 1 else None, ("put", "a", (number,)), 16)
                     for number in range(1, 997))
        self.assertEqual(len(all_frames(1, many)), 996 * 16)

    def test_bases_of_the_same_hand(self):
        for number, right in ((4, True), (5, False), (6, False)):
            save = (2, 5, (2, number), ("put", "a", ()), 1)
            if right:
                self.assertEqual(len(frames_of(9, save, 0)), 1)
            else:
                wrong.check_raises(self, errors.InvalidSave, frames_of, (9, save, 0))
                wrong.check_raises(self, errors.InvalidSave, frames_of, (9, save, 1000))
        self.assertEqual(len(frames_of(9, (2, 5, (1, 996), ("put", "a", ()), 1), 0)), 1)

    def test_bodies_that_would_be_none(self):
        patch = (1, 2, (1, 1), ("patch", "a", 3, 2, (1,) * 9), 2)
        for save, ahead, right in (
            (FIRST, 1, False), (FIRST, 996, False), (patch, 4, False), (patch, 5, True), (patch, 989, True),
            (patch, 990, False), (APART, 0, True), (APART, 996, True),
            ((1, 2, None, ("drop", "a"), 1), 0, False), ((1, 2, None, ("rename", "a", "b"), 1), 0, False),
            ((1, 2, None, ("patch", "a", 0, 0, ()), 1), 0, False), ((1, 2, (3, 3), ("drop", "a"), 1), 996, True),
        ):
            if right:
                self.assertEqual(frames_of(9, save, ahead)[0][13], ahead)
            else:
                wrong.check_raises(self, errors.InvalidOperation, frames_of, (9, save, ahead))

    def test_wrong_arguments(self):
        archive = (errors.InvalidNumber, wrong.odd_but(lambda value: wrong.is_int(value, 1, 996)) + [0, 997])
        save = (errors.InvalidSave, list(wrong.ODD) + FORMLESS + [
            (1, 1, None, ("put", "a", (1,) * 7), 1), (1, 1, (1, 1), ("put", "a", ()), 1),
            (1, 1, (1, 2), ("put", "a", ()), 1), list(FIRST), (1, 2), (1, 1, None, ("put", "a", (1,) * 43), 7)])
        ahead = (errors.InvalidNumber, wrong.odd_but(lambda value: wrong.is_int(value, 0, 996)) + [997, -1])
        then = ((errors.InvalidOperation, (9, NEXT, 1), (0, 1, 2)),)
        wrong.check_wrong(self, frames_of, (9, NEXT, 3), (archive, save, ahead), then)
        history = (errors.InvalidHistory, wrong.odd_but(
            lambda value: value == () or repr(value) == repr(((1, 1, None, ("put", "a", ()), 1),))) + [
                list(STORY), (NEXT,), (FIRST, FIRST), (FIRST, (2, 1, (1, 1), ("drop", "b"), 1))])
        wrong.check_wrong(self, all_frames, (9, STORY), (archive, history))


if __name__ == "__main__":
    unittest.main()
