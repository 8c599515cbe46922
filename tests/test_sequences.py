"""Sequences in time: EITHER a sequence OR a ring."""

import itertools
import random
import unittest

from stillread import errors
from stillread.plain.histories import is_time_sequence, time_sequence
from tests import wrong
from tests.stories import drawn_history

DRAW = random.Random(9)
THREE = ((1, 1), (1, 2), (2, 1))


def plain_sequence(names, pairs, value):
    """Whether each name is there once, each pair in its sequence, the numbers of a hand ascending."""
    if sorted(value) != list(names):
        return False
    steps = {name: at for at, name in enumerate(value)}
    hands = [(one, other) for one in names for other in names if one[0] == other[0] and one[1] < other[1]]
    return all(steps[one] < steps[other] for one, other in list(pairs) + hands)


def plain_ring(names, pairs, ring):
    """Whether each name of a ring has to be ahead of the next one."""
    follows = zip(ring, ring[1:] + ring[:1])
    return len(ring) > 0 and set(ring) <= set(names) and all(
        (one, other) in pairs or (one[0] == other[0] and one[1] < other[1]) for one, other in follows)


def drawn_names(most):
    every = list(itertools.product((1, 2, 3, 996), (1, 2, 5)))
    return tuple(sorted(DRAW.sample(every, DRAW.randint(0, most))))


def drawn_pairs(names, most):
    if not names:
        return ()
    return tuple((DRAW.choice(names), DRAW.choice(names)) for _ in range(DRAW.randint(0, most)))


class SequencesTest(unittest.TestCase):
    def test_either_a_sequence_or_a_ring(self):
        counts = {True: 0, False: 0}
        for _ in range(400):
            names = drawn_names(5)
            pairs = drawn_pairs(names, 5)
            possible = any(plain_sequence(names, pairs, value) for value in itertools.permutations(names))
            told = time_sequence(names, pairs)
            counts[possible] += 1
            if possible:
                self.assertTrue(plain_sequence(names, pairs, told))
            else:
                self.assertEqual(told[0], "ring")
                self.assertTrue(plain_ring(names, pairs, told[1]))
            self.assertIs(is_time_sequence(names, pairs, told), True)
        self.assertGreater(min(counts.values()), 30)

    def test_every_right_sequence_is_taken(self):
        for _ in range(100):
            names = drawn_names(4)
            pairs = drawn_pairs(names, 3)
            for value in itertools.permutations(names):
                self.assertIs(is_time_sequence(names, pairs, value), plain_sequence(names, pairs, value))
            for many in (0, 1, 2, 3):
                for ring in itertools.product(names, repeat=many):
                    self.assertIs(is_time_sequence(names, pairs, ("ring", ring)), plain_ring(names, pairs, ring))

    def test_large_ones(self):
        for _ in range(20):
            names = drawn_names(12)
            pairs = drawn_pairs(names, 30)
            told = time_sequence(names, pairs)
            self.assertIs(is_time_sequence(names, pairs, told), True)
        names = tuple((hand, number) for hand in range(1, 21) for number in range(1, 201))
        pairs = tuple(((hand + 1, 200), (hand, 1)) for hand in range(1, 20))
        self.assertTrue(plain_ends(names, time_sequence(names, pairs)))
        told = time_sequence(names, pairs + (((1, 200), (20, 1)),))
        self.assertEqual(told[0], "ring")
        self.assertIs(is_time_sequence(names, pairs + (((1, 200), (20, 1)),), told), True)

    def test_sequences_of_histories(self):
        for _ in range(60):
            history, trees = drawn_history(DRAW, 12)
            names = tuple(sorted(trees))
            pairs = tuple((save[2], save[:2]) for save in history if save[2] is not None)
            self.assertIs(is_time_sequence(names, pairs, tuple(save[:2] for save in history)), True)
            self.assertIs(is_time_sequence(names, pairs, time_sequence(names, pairs)), True)

    def test_rings_at_the_edges(self):
        self.assertEqual(time_sequence(THREE, (((2, 1), (2, 1)),)), ("ring", ((2, 1),)))
        self.assertEqual([time_sequence((), ()), is_time_sequence((), (), ())], [(), True])
        self.assertIs(is_time_sequence((), (), ("ring", ())), False)
        self.assertIs(is_time_sequence(THREE, (((2, 1), (2, 1)),), THREE), False)
        pairs = (((1, 2), (1, 1)),)
        for ring, right in ((((1, 1), (1, 2)), True), (((1, 2), (1, 1)), True), (((1, 1),), False), ((), False),
                            (((1, 1), (1, 2), (1, 1), (1, 2)), True), (((1, 1), (2, 1)), False),
                            (((1, 1), (1, 3)), False)):
            self.assertIs(is_time_sequence(THREE, pairs, ("ring", ring)), right, ring)

    def test_is_time_sequence_takes_every_value(self):
        names = ((1, 1), (1, 2))
        for value in wrong.ODD + (
            ("ring",), ("ring", ((1, 1), (1, 2)), 1), ("ring", [(1, 1), (1, 2)]), ["ring", ((1, 1), (1, 2))],
            ("Ring", ((1, 1), (1, 2))), ("ring", ((True, 1), (1, 2))), ("ring", None), ("ring", "ring"),
            (1, ((1, 1),)),
            ((True, 1), (1, 2)), ((1, True), (1, 2)), [(1, 1), (1, 2)], ([1, 1], (1, 2)), ((1, 1), (1, 1), (1, 2)),
            ((1, 1), (1, 3)), ((1, 1),), (None, (1, 1)), ("ring", (None,)), ("ring", ((1, 1), [1, 2])),
        ):
            self.assertIs(is_time_sequence(names, (), value), False, repr(value)[:60])
        self.assertIs(is_time_sequence(names, (), names), True)
        pairs, ring = (((1, 2), (1, 1)),), ((1, 1), (1, 2))
        for value in (("Ring", ring), (None, ring), ("ring", list(ring)), ["ring", ring],
                      ("ring", ring, ring), (ring,)):
            self.assertIs(is_time_sequence(names, pairs, value), False, value)
        self.assertIs(is_time_sequence(names, pairs, ("ring", ring)), True)

    def test_wrong_arguments(self):
        def are_names(value):
            sound = isinstance(value, tuple) and all(map(wrong.is_save_name, value))
            return sound and list(value) == sorted(set(value))
        names = (errors.InvalidSave, wrong.odd_but(are_names) + [
            ((1, 2), (1, 1)), ((1, 1), (1, 1)), ((1, 1), (1, 0)), ((1, True),), [(1, 1)], ((1, 1), None), ([1, 1],)])
        pairs = (errors.InvalidOperation, wrong.odd_but(lambda value: value == ()) + [
            (((1, 1), (3, 1)),), (((1, 1),),), (((1, 1), (1, 2), (2, 1)),), ([(1, 1), (1, 2)],), [((1, 1), (1, 2))],
            (((True, 1), (1, 2)),), (((1, 1), None),), (((1, 1), [1, 2]),), ((1, 1), (1, 2)), (None,), ("ab",)])
        good = (THREE, (((2, 1), (1, 1)), ((2, 1), (1, 1))))
        wrong.check_wrong(self, time_sequence, good, (names, pairs))
        wrong.check_wrong(self, is_time_sequence, good + (None,), (names, pairs, None))


def plain_ends(names, told):
    """Whether a long sequence has all names, from the last hand down to the first one."""
    return sorted(told) == list(names) and told[0] == (20, 1) and told[-1] == (1, 200)


if __name__ == "__main__":
    unittest.main()
