"""Damage: acts, origins, stretches, kept and fresh windows."""

import random
import unittest

from stillread import errors
from stillread.text import damage as module
from stillread.text.cells import window_text, windows
from stillread.text.damage import damaged, fresh_windows, is_script, kept_windows, origins, stretches
from stillread.text.frames import made_frame
from tests import wrong
from tests.examples import run_examples

EXAMPLES = """
>>> SEVEN, NINE = window_text((7,) * 40), window_text((9,) * 40)
>>> ACTS = (("put", 2, "xy"), ("out", 0, 1), ("wrong", 3, "z"), ("join", "pq"))
>>> [damaged("abcd", ACTS), origins("abcd", ACTS), stretches("abcd", ACTS)]
['bxyzdpq', ((0, 1), None, None, None, (0, 3), (1, 0), (1, 1)), ((0, 1, 0, 1), (4, 5, 0, 3), (5, 7, 1, 0))]
>>> [damaged("abcd", (("move", 0, 2, 1),)), damaged("abcd", (("copy", 1, 3, 4),)), is_script("abcd", (("out", 0, 4), ("wrong", 0, "a"))), is_script("ab", (("wrong", 0, "a"),))]
['cabd', 'abcdbc', False, False]
>>> [kept_windows(SEVEN + NINE, (("out", 0, 1), ("join", SEVEN))), fresh_windows(SEVEN + NINE, (("out", 61, 183),)), kept_windows(SEVEN, (("wrong", 5, "1"),))]
[((121, 0, 122), (243, 1, 0)), (0,), ()]
>>> damaged("abc", (("out", 2, 2),))
raises InvalidDamage
"""
DRAW = random.Random(5)
SEVEN, NINE = window_text((7,) * 40), window_text((9,) * 40)
NO_FRAME = window_text(tuple(range(40)))


def plain_damage(text, script):
    """The signs of the damaged text with their origins, changed one by one."""
    signs, joined = [[sign, (0, at)] for at, sign in enumerate(text)], 0
    for word, *told in script:
        if word in ("out", "move"):
            taken = [signs.pop(told[0]) for _ in range(told[1] - told[0])]
        if word == "copy":
            taken = [list(sign) for sign in signs[told[0]:told[1]]]
        if word == "put":
            taken, told = [[sign, None] for sign in told[1]], told[:1]
        if word == "wrong":
            signs[told[0]] = [told[1], None]
        if word == "join":
            joined += 1
            taken, told = [[sign, (joined, at)] for at, sign in enumerate(told[0])], [len(signs)]
        if word in ("copy", "move", "put", "join"):
            for sign in reversed(taken):
                signs.insert(told[-1], sign)
    return signs


def drawn_act(text):
    """An act that is right for the text."""
    size = len(text)
    words = ("put", "join") if size == 0 else ("out", "copy", "move", "put", "wrong", "join")
    word = DRAW.choice(words)
    if word in ("out", "copy", "move"):
        begin = DRAW.randrange(size)
        end = DRAW.choice((begin + 1, DRAW.randint(begin + 1, size), min(size, begin + 122)))
        left = size - (end - begin if word == "move" else 0)
        return (word, begin, end) + (() if word == "out" else (DRAW.randint(0, left),))
    if word == "put":
        return (word, DRAW.randint(0, size), DRAW.choice(("#", ";", "x 1", SEVEN, NINE[40:])))
    if word == "wrong":
        at = DRAW.randrange(size)
        return (word, at, DRAW.choice([sign for sign in "#;0179x " if sign != text[at]]))
    return (word, DRAW.choice(("", "x", SEVEN, made_frame((3,) * 20), NINE[:50])))


def drawn_script(text, most):
    acts = []
    for _ in range(DRAW.randint(0, most)):
        acts.append(drawn_act(text))
        text = "".join(sign for sign, origin in plain_damage(text, acts[-1:]))
    return tuple(acts)


def drawn_text():
    parts = [DRAW.choice((SEVEN, NINE, made_frame((DRAW.randrange(997),) * 20), NO_FRAME, "#", "x", SEVEN[30:]))
             for _ in range(DRAW.randint(0, 5))]
    return "".join(parts)


def is_out(value):
    """Whether the value is a script for "abc" among the odd values."""
    return value == () or value == (("out", 0, 1),)


class ScriptsTest(unittest.TestCase):
    def test_examples(self):
        run_examples(self, EXAMPLES, {**vars(errors), **vars(module), "window_text": window_text})

    def test_constant(self):
        self.assertEqual(module.MOST_ACTS, 60)

    def test_damaged_texts_sign_by_sign(self):
        for _ in range(150):
            text = drawn_text()
            script = drawn_script(text, 6)
            signs = plain_damage(text, script)
            self.assertIs(is_script(text, script), True)
            self.assertEqual(damaged(text, script), "".join(sign for sign, origin in signs))
            self.assertEqual(origins(text, script), tuple(origin for sign, origin in signs))

    def test_each_sign_is_the_one_at_its_origin(self):
        for _ in range(60):
            text = drawn_text()
            script = drawn_script(text, 8)
            sources = [text] + [act[1] for act in script if act[0] == "join"]
            for sign, origin in zip(damaged(text, script), origins(text, script)):
                if origin is not None:
                    self.assertEqual(sign, sources[origin[0]][origin[1]])

    def test_a_sign_made_wrong_and_right_again_has_no_origin(self):
        script = (("wrong", 1, "x"), ("wrong", 1, "b"))
        self.assertEqual([damaged("abc", script), origins("abc", script)], ["abc", ((0, 0), None, (0, 2))])

    def test_joins_are_numbered_in_their_sequence(self):
        script = (("join", "p"), ("join", ""), ("out", 0, 2), ("join", "q"))
        self.assertEqual([damaged("a", script), origins("a", script)], ["q", ((3, 0),)])

    def test_stretches_are_longest_rows(self):
        for _ in range(100):
            text = drawn_text()
            script = drawn_script(text, 6)
            signs = origins(text, script)
            found = stretches(text, script)
            inside = []
            for begin, end, source, place in found:
                self.assertLess(begin, end)
                self.assertEqual(signs[begin:end], tuple((source, place + at) for at in range(end - begin)))
                if begin > 0:
                    self.assertNotEqual(signs[begin - 1], (source, place - 1))
                if end < len(signs):
                    self.assertNotEqual(signs[end], (source, place + end - begin))
                inside.extend(range(begin, end))
            self.assertEqual(inside, [at for at, origin in enumerate(signs) if origin is not None])

    def test_stretches_that_grow_together(self):
        self.assertEqual(stretches("abcd", (("out", 1, 3), ("copy", 0, 1, 0))),
                         ((0, 1, 0, 0), (1, 2, 0, 0), (2, 3, 0, 3)))
        self.assertEqual(stretches("abcd", (("move", 0, 2, 2), ("move", 0, 2, 2))), ((0, 4, 0, 0),))
        self.assertEqual(stretches("abcd", (("copy", 0, 4, 4),)), ((0, 4, 0, 0), (4, 8, 0, 0)))
        self.assertEqual(stretches("", ()), ())

    def test_is_script_at_the_edges(self):
        right = (
            (("out", 0, 3),), (("copy", 0, 3, 0),), (("copy", 0, 3, 3),), (("move", 0, 3, 0),), (("move", 0, 1, 2),),
            (("put", 0, "x"),), (("put", 3, "x"),), (("wrong", 2, "x"),), (("join", ""),), (), (("out", 0, 1),) * 3,
            (("put", 0, "x"),) * 60, (("out", 0, 3), ("put", 0, "x")),
            (("out", 0, 3), ("join", "x"), ("wrong", 0, "y")),
        )
        for script in right:
            self.assertIs(is_script("abc", script), True, script)
        off = (
            ("out", 0, 4), ("out", 1, 1), ("out", 2, 1), ("out", -1, 1), ("out", 0), ("out", 0, 1, 0), ("copy", 0, 3),
            ("copy", 0, 3, 4), ("copy", 0, 3, -1), ("copy", 3, 3, 0), ("copy", 0, 3, 0, 0), ("move", 0, 1, 3),
            ("move", 0, 3, 1),
            ("move", 0, 1), ("move", 0, 1, 0, 0), ("move", 2, 1, 0), ("move", 1, 1, 0), ("move", 0, 4, 0),
            ("move", 0, 1, -1),
            ("put", 4, "x"), ("put", 0, ""), ("put", 0, "\n"), ("put", 0), ("put", -1, "x"), ("put", 0, None),
            ("put", 0, "x", "y"),
            ("wrong", 3, "x"), ("wrong", 0, "a"), ("wrong", 0, "xy"), ("wrong", 0, ""), ("wrong", 0, "\x7f"),
            ("wrong", 0),
            ("wrong", -1, "x"), ("wrong", 0, "x", "y"), ("wrong", 0, "\xe9"), ("join",), ("join", "x\n"),
            ("join", 0), ("join", "a", "b"), ("in", 0, 1), (0, 0, 1),
            ("out", True, 2), ("out", 0, True), ("copy", 0, 1, True), ("put", False, "x"), ("wrong", True, "x"),
            ("out", 0, 10 ** 59), ("move", 0, 1, 10 ** 99), (), None, "out", ["out", 0, 1], (("out",), 0, 1),
            ([], 0, 1), ("out", (0,), 1), {"out": 1},
        )
        for act in off:
            self.assertIs(is_script("abc", (act,)), False, act)
            self.assertIs(is_script("abc", (("put", 3, "d"), ("out", 3, 4), act)), False, act)
        self.assertIs(is_script("abc", (("put", 0, "x"),) * 61), False)
        self.assertIs(is_script("abc", [("out", 0, 1)]), False)
        self.assertIs(is_script("abc", (("out", 0, 1),) * 4), False)
        self.assertIs(is_script("", (("wrong", 0, "x"),)), False)
        self.assertIs(is_script("", (("out", 0, 0),)), False)
        self.assertIs(is_script("", (("put", 0, "x"),)), True)

    def test_no_act_makes_more_than_60000_signs(self):
        half, more = "a" * 30000, "b" * 30000
        self.assertEqual([is_script(half, (act,)) for act in (
            ("join", more), ("join", more + "c"), ("put", 5, more), ("put", 5, more + "c"), ("copy", 0, 30000, 9),
        )], [True, False, True, False, True])
        self.assertIs(is_script(half + "a", (("copy", 0, 30000, 9),)), False)
        self.assertIs(is_script(half + "a", (("copy", 0, 29999, 9),)), True)
        self.assertIs(is_script(half + more, (("out", 0, 3), ("copy", 100, 103, 9))), True)
        self.assertIs(is_script(half + more, (("out", 0, 3), ("copy", 100, 104, 9))), False)
        self.assertIs(is_script(half, (("join", more), ("put", 0, "x"), ("out", 0, 1))), False)
        self.assertIs(is_script(half, (("join", more), ("out", 0, 1), ("put", 0, "x"))), True)
        self.assertIs(is_script(half + more, (("move", 0, 60000, 0), ("wrong", 0, "c"))), True)

    def test_is_script_takes_every_value(self):
        for value in wrong.ODD:
            self.assertIs(is_script("abc", value), is_out(value), repr(value)[:60])

    def test_wrong_arguments(self):
        text = (errors.InvalidText, wrong.odd_but(wrong.is_text))
        script = (errors.InvalidDamage, wrong.odd_but(is_out) + [(("out", 0, 4),), (("put", 0, "x"),) * 61])
        good = ("abc", (("out", 0, 1),))
        for function in (damaged, origins, stretches, kept_windows, fresh_windows, module.is_fair,
                         module.is_surely_fair):
            wrong.check_wrong(self, function, good, (text, script))
        wrong.check_wrong(self, is_script, good, (text, None))


class KeptTest(unittest.TestCase):
    def check_windows(self, text, script):
        """Each window is kept or fresh, as its signs tell one by one."""
        end = "".join(sign for sign, origin in plain_damage(text, script))
        signs = [origin for sign, origin in plain_damage(text, script)]
        sources = [text] + [act[1] for act in script if act[0] == "join"]
        kept, fresh = [], []
        for place, cells in windows(end):
            rows = [(begin, last) for begin, last, source, at in stretches(text, script)
                    if begin <= place and place + 122 <= last]
            if rows:
                source, at = signs[place]
                kept.append((place, source, at))
                self.assertIn((at, cells), windows(sources[source]))
            else:
                fresh.append(place)
                self.assertTrue(None in signs[place:place + 122] or any(
                    one[0] != other[0] or one[1] + 1 != other[1]
                    for one, other in zip(signs[place:place + 122], signs[place + 1:place + 122])))
        self.assertEqual(kept_windows(text, script), tuple(kept))
        self.assertEqual(fresh_windows(text, script), tuple(fresh))
        return len(kept), len(fresh)

    def test_drawn_scripts(self):
        counts = [self.check_windows(text, drawn_script(text, 6)) for text in [drawn_text() for _ in range(150)]]
        self.assertGreater(sum(kept for kept, fresh in counts), 50)
        self.assertGreater(sum(fresh for kept, fresh in counts), 10)

    def test_windows_that_come_together_again(self):
        self.assertEqual(self.check_windows(SEVEN, (("move", 0, 50, 72), ("move", 72, 122, 0))), (1, 0))
        self.assertEqual(self.check_windows(SEVEN, (("copy", 0, 122, 122), ("out", 0, 61))), (1, 0))
        self.assertEqual(self.check_windows(SEVEN, (("copy", 0, 122, 61),)), (1, 0))

    def test_fresh_by_one_sign(self):
        self.assertEqual(self.check_windows(SEVEN, (("wrong", 5, "1"),)), (0, 1))
        self.assertEqual(self.check_windows(SEVEN, (("wrong", 3, "1"), ("wrong", 3, "7"))), (0, 1))
        self.assertEqual(self.check_windows("", (("put", 0, SEVEN),)), (0, 1))
        self.assertEqual(self.check_windows(SEVEN[:60], (("join", SEVEN[60:]),)), (0, 1))
        self.assertEqual(self.check_windows(SEVEN + SEVEN, (("out", 1, 123),)), (0, 1))

    def test_windows_of_copies_are_kept(self):
        script = (("copy", 0, 122, 122), ("join", SEVEN), ("copy", 244, 366, 0))
        self.assertEqual(kept_windows(SEVEN, script), ((0, 1, 0), (122, 0, 0), (244, 0, 0), (366, 1, 0)))


if __name__ == "__main__":
    unittest.main()
