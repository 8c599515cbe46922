"""Fair damage, and scripts that spoil just the told frames."""

import random
import unittest

from stillread import errors
from stillread.text.damage import (
    damaged, fresh_windows, is_fair, is_script, is_spoiling, is_surely_fair, kept_windows, origins, spoiling,
)
from stillread.text.frames import bodies_in, found_frames, made_frame, other_body, spliced
from tests import wrong
from tests.test_damage import NO_FRAME, drawn_script, drawn_text

DRAW = random.Random(6)
BODIES = [tuple(DRAW.randrange(997) for _ in range(20)) for _ in range(6)]
FRAMES = [made_frame(body) for body in BODIES]
ONE, TWO, THREE = FRAMES[:3]


def plain_sources(text, script):
    return [text] + [act[1] for act in script if act[0] == "join"]


def plain_fair(text, script):
    known = {body for source in plain_sources(text, script) for body in bodies_in(source)}
    return set(bodies_in(damaged(text, script))) <= known


def plain_surely_fair(text, script):
    """The told definition, tried with all frames of all sources."""
    signs = origins(text, script)
    starts = [(number, place) for number, source in enumerate(plain_sources(text, script))
              for place, body in found_frames(source)]
    rows = [[(number, place + at) for at in range(122)] for number, place in starts]
    return all(any(plain_splice(signs[place:place + 122], one, other) for one in rows for other in rows) or
               any(plain_bent(signs[place:place + 122], one) for one in rows)
               for place in fresh_windows(text, script))


def plain_splice(signs, one, other):
    for border in range(1, 122):
        if list(signs[:border]) == one[:border] and list(signs[border:]) == other[border:]:
            return True
    return False


def plain_bent(signs, one):
    off = [at for at in range(122) if signs[at] != one[at]]
    return 0 not in off and 121 not in off and len({(at - 1) // 3 for at in off}) <= 20


def wrong_digits(text, place, cells, each):
    """Acts that make so many digits wrong in each of some cells of the frame at a place."""
    acts = []
    for cell in cells:
        for at in range(each):
            index = place + 1 + 3 * cell + at
            acts.append(("wrong", index, "0" if text[index] != "0" else "1"))
    return tuple(acts)


class FairTest(unittest.TestCase):
    def check(self, text, script, fair, surely):
        self.assertIs(is_fair(text, script), fair)
        self.assertIs(is_surely_fair(text, script), surely)

    def test_no_damage_is_surely_fair(self):
        self.check("", (), True, True)
        self.check(ONE + TWO, (), True, True)

    def test_kept_windows_need_be_no_frames(self):
        self.check(NO_FRAME + ONE, (("put", 0, "x"), ("copy", 1, 123, 0)), True, True)
        self.check(NO_FRAME + NO_FRAME, (("out", 61, 183),), True, False)
        self.check(NO_FRAME, wrong_digits(NO_FRAME, 0, range(1), 1), True, False)
        self.check(ONE + NO_FRAME, (("out", 61, 183),), True, False)
        self.check(NO_FRAME + ONE, (("out", 61, 183),), True, False)

    def test_splices(self):
        for border in (1, 2, 60, 61, 62, 121):
            script = (("out", border, 122 + border),)
            self.assertEqual(fresh_windows(ONE + TWO, script), (0,))
            self.check(ONE + TWO, script, True, True)
        self.check(ONE[:60], (("join", TWO[60:]),), True, False)
        self.check(ONE, (("join", TWO), ("out", 50, 172)), True, True)

    def test_a_splice_at_unlike_indices_is_none(self):
        for script in ((("out", 61, 186), ("put", 70, "010")), (("move", 1, 4, 61),)):
            self.assertEqual(fresh_windows(ONE + TWO, script)[0], 0)
            self.check(ONE + TWO, script, True, False)
        script = (("move", 1, 4, 58),)
        self.assertEqual(fresh_windows(ONE + TWO, script), (0,))
        self.check(ONE + TWO, script, True, True)

    def test_bent_frames(self):
        for many, each in ((1, 1), (20, 1), (20, 3)):
            self.check(ONE, wrong_digits(ONE, 0, range(many), each), True, True)
        self.check("x" + ONE + TWO, wrong_digits("x" + ONE, 1, range(20, 40), 1), True, True)
        self.check(ONE, wrong_digits(ONE, 0, range(21), 1), True, False)
        self.check(ONE + TWO, wrong_digits(ONE, 0, range(21), 1) + (("out", 122, 123),), True, False)

    def test_bent_by_signs_from_elsewhere(self):
        self.check(ONE + TWO, (("out", 10, 13), ("copy", 131, 134, 10)), True, True)
        self.check(ONE, (("out", 1, 4), ("put", 1, ONE[1:4])), True, True)
        self.check(ONE, (("out", 0, 1), ("put", 0, "#")), True, False)
        self.check(ONE, (("out", 121, 122), ("put", 121, ";")), True, False)

    def test_frames_that_were_put_in_are_not_fair(self):
        self.check(ONE, (("put", 0, TWO),), False, False)
        self.check(ONE, (("put", 0, ONE),), True, False)
        self.check(ONE, (("join", TWO),), True, True)
        self.check("", (("put", 0, TWO), ("join", TWO)), True, False)

    def test_a_mixture_that_nobody_wrote_is_not_fair(self):
        other = other_body(BODIES[0], tuple(range(10, 29)))
        text = made_frame(other)[:31] + "x" + made_frame(other)[88:] + ONE
        script = (("copy", 97, 154, 32), ("out", 31, 32))
        self.assertEqual(found_frames(damaged(text, script))[0], (0, other))
        self.check(text, script, False, False)

    def test_a_part_of_a_fair_script_need_not_be_fair(self):
        script = (("put", 0, TWO), ("out", 0, 1))
        self.assertEqual([is_fair(ONE, script), is_fair(ONE, script[:1])], [True, False])

    def test_drawn_scripts_by_definition(self):
        told = {True: 0, False: 0}
        for _ in range(150):
            text = drawn_text() + DRAW.choice(FRAMES) + DRAW.choice(FRAMES)
            script = drawn_script(text, 4)
            fair, surely = plain_fair(text, script), plain_surely_fair(text, script)
            self.check(text, script, fair, surely)
            self.assertTrue(fair or not surely)
            told[surely] += 1
        self.assertGreater(min(told.values()), 2)

    def test_drawn_splices_and_bent_frames(self):
        for _ in range(60):
            text = "".join(DRAW.choices(FRAMES, k=3))
            border = DRAW.randint(0, 244)
            script = (("out", border, border + 122),)
            bent = wrong_digits(text, 122, DRAW.sample(range(40), DRAW.randint(0, 20)), 1)
            for one in (script, bent):
                self.check(text, one, plain_fair(text, one), plain_surely_fair(text, one))
                self.check(text, one, True, True)

    def test_spliced_texts_have_no_other_frame(self):
        for border in range(123):
            text = spliced(BODIES[0], BODIES[1], border)
            self.assertLessEqual(set(bodies_in(text)), set(BODIES[:2]))


def plain_runs(text, places):
    """The number of the runs of told places."""
    marks = "".join("x" if place in places else " " for place, body in found_frames(text))
    return len(marks.split())


def plain_spoils(text, places, script):
    """Whether a script spoils just these frames, by what it leaves."""
    kept = {place: origin for place, source, origin in kept_windows(text, script)}
    found = [place for place, body in found_frames(damaged(text, script))]
    others = [place for place, body in found_frames(text) if place not in places]
    return all(place in kept for place in found) and [kept[place] for place in found] == others


def drawn_row():
    parts = [DRAW.choice(FRAMES + ["x", "#", ";#", "007", ONE[40:], "#" + "012" * 40 + ";"])
             for _ in range(DRAW.randint(0, 12))]
    return "".join(parts)


class SpoilingTest(unittest.TestCase):
    def test_drawn_places(self):
        for _ in range(150):
            text = drawn_row()
            places = tuple(place for place, body in found_frames(text) if DRAW.random() < 0.5)
            script = spoiling(text, places)
            self.assertIs(is_script(text, script), True)
            self.assertEqual(len(script), plain_runs(text, places))
            self.assertTrue(all(act[0] in ("out", "wrong") for act in script))
            self.assertTrue(plain_spoils(text, places, script))
            self.assertIs(is_spoiling(text, places, script), True)
            if script:
                self.assertIs(is_spoiling(text, places, script[1:]), False)
                self.assertIs(is_spoiling(text, places[1:], script), False)
                self.assertIs(is_spoiling(text, places, script + (("out", 0, 1),)), False)

    def test_no_fewer_acts_are_enough(self):
        text = ONE + TWO + THREE
        for _ in range(150):
            begin = DRAW.randint(0, 365)
            act = ("out", begin, DRAW.randint(begin + 1, 366))
            self.assertFalse(plain_spoils(text, (0, 244), (act,)))
            self.assertIs(is_spoiling(text, (0, 244), (act,)), False)
        self.assertIs(is_spoiling(text, (0, 244), ()), False)

    def test_others_are_right_too(self):
        text = ONE + "x" + TWO + THREE
        for script in ((("wrong", 5, "x"),), (("out", 0, 1),), (("out", 0, 122),), (("out", 0, 123),),
                       (("out", 121, 122),), (("out", 50, 51),), (("wrong", 121, "#"),), (("out", 60, 123),)):
            self.assertIs(is_spoiling(text, (0,), script), True, script)
        for script in ((("out", 0, 124),), (("out", 122, 123),), (), (("put", 5, "x"),), (("copy", 0, 1, 5),),
                       (("move", 0, 1, 5),), (("wrong", 122, "#"),), (("join", ""),),
                       (("wrong", 5, "x"), ("out", 0, 1))):
            self.assertIs(is_spoiling(text, (0,), script), False, script)
        self.assertIs(is_spoiling(text, (0, 123), (("out", 121, 124),)), True)
        self.assertIs(is_spoiling(text, (0, 123), (("out", 121, 123),)), False)
        self.assertIs(is_spoiling(text, (0, 245), (("out", 300, 301), ("wrong", 4, "x"))), True)
        self.assertIs(is_spoiling(text, (), ()), True)
        self.assertIs(is_spoiling(text, (), (("out", 122, 123),)), False)

    def test_a_frame_that_is_found_and_fresh_is_no_spoiling(self):
        text = ONE + ONE
        script = (("out", 50, 172),)
        self.assertEqual(found_frames(damaged(text, script)), ((0, BODIES[0]),))
        self.assertEqual(fresh_windows(text, script), (0,))
        for places in ((), (0,), (122,), (0, 122)):
            self.assertIs(is_spoiling(text, places, script), False)
        self.assertIs(is_spoiling(text, (0, 122), (("out", 50, 170),)), True)

    def test_is_spoiling_takes_every_value(self):
        for value in wrong.ODD + ([("out", 0, 1)], (["out", 0, 1],), (("out", False, True),)):
            wanted = repr(value) == repr((("out", 0, 1),))
            self.assertIs(is_spoiling(ONE, (0,), value), wanted, repr(value)[:60])

    def test_sixty_runs_and_one_more(self):
        text = ONE * 122
        places = tuple(range(0, 122 * 120, 244))
        script = spoiling(text, places)
        self.assertEqual((len(places), len(script)), (60, 60))
        self.assertIs(is_spoiling(text, places, script), True)
        for function, more in ((spoiling, ()), (is_spoiling, ((),))):
            wrong.check_raises(self, (errors.TooMany, {"most": 60}), function, (text, places + (14640,)) + more)
        every = tuple(range(0, 122 * 122, 122))
        self.assertEqual(len(spoiling(text, every)), 1)
        self.assertIs(is_spoiling(text, every, spoiling(text, every)), True)

    def test_wrong_arguments(self):
        text = (errors.InvalidText, wrong.odd_but(wrong.is_text))
        values = [value for value in wrong.ODD if value not in ((), (0,))] + [
            (False,), (0, 0), (123, 0), (122,), (0, 1), [0], (0, None), (-1,), (10 ** 99,)]
        places = (errors.InvalidOperation, values)
        good = (ONE + "x" + TWO, (0, 123))
        wrong.check_wrong(self, spoiling, good, (text, places))
        wrong.check_wrong(self, is_spoiling, good + (None,), (text, places, None))


if __name__ == "__main__":
    unittest.main()
