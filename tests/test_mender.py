"""Frames that others tell, and texts that are mended and clean."""

import random
import unittest

from stillread import errors
from stillread.keep import archive as archives
from stillread.keep.archive import Archive
from stillread.lots.gather import lots_of, told_payload
from stillread.lots.spread import all_frames, frames_of, is_body, with_payload
from stillread.mend import mender as module
from stillread.mend.mender import clean, is_closed, lacks, mended, told_frames
from stillread.paper.checker import is_clash
from stillread.read.told import Reading
from stillread.read.unlike import filled, unlike_histories
from stillread.text.frames import bodies_in, made_frame
from tests import wrong
from tests.bodies import plain_k
from tests.examples import run_examples
from tests.frames import ARCHIVE, drawn_story, some_frames
from tests.test_constraints import FRAMES as WRONG_FRAMES
from tests.test_histories import FIRST, NEXT, STORY
from tests.test_told import CLASH, CLASHING, FRAMES, all_questions
from tests.test_unlike import drawn_filling

EXAMPLES = """
>>> ONE = Archive(7, 1)
>>> ONE.add(("put", "a", tuple(range(8))), more=2)
(1, 1)
>>> SOME = ONE.text[122:366]
>>> [len(SOME), len(mended(SOME)), clean(mended(SOME)) == ONE.text, mended(mended(SOME)) == mended(SOME), mended(mended(SOME)[:300]) == mended(SOME)]
[244, 488, True, True, False]
>>> [len(mended(SOME)[:300]), clean(mended(mended(SOME)[:300])) == ONE.text, mended(SOME[:122]) == SOME[:122]]
[300, True, True]
"""
DRAW = random.Random(170)
TEXT = (errors.InvalidText, wrong.odd_but(wrong.is_text))


def text_of(frames):
    return "".join(made_frame(body) for body in frames)


def plain_told(story, frames):
    """All frames of those saves of a story of which k frames are there."""
    ks = {save[:2]: plain_k(len(save[3][-1]) if save[3][0] in ("put", "patch") else 0) for save in story}
    there = {save: len({body[3] for body in frames if body[1:3] == save}) for save in ks}
    return [body for body in all_frames(ARCHIVE, story) if there[body[1:3]] >= max(1, ks[body[1:3]])]


def drawn_text(draw, frames):
    """Frames with other signs about them."""
    return "".join(draw.choice(("", "", "x", "#", ";", "#12", "  ")) + made_frame(body) for body in frames) + draw.choice(("", "#0"))


class FramesTest(unittest.TestCase):
    def test_examples(self):
        run_examples(self, EXAMPLES, {**vars(errors), **vars(archives), **vars(module)})

    def test_told_frames_and_what_lacks(self):
        told_some, lacked_some = 0, 0
        for _ in range(150):
            story, trees = drawn_story(DRAW, 8, 0.5)
            frames = some_frames(DRAW, story)
            every, whole = all_frames(ARCHIVE, story), plain_told(story, frames)
            wanted = tuple(body for body in whole if body not in frames)
            told = told_frames(frames)
            self.assertEqual(told, wanted)
            self.assertTrue(all(is_body(body) for body in told))
            self.assertIs(is_closed(frames), not wanted)
            self.assertIs(is_closed(frames + told), True)
            missing = {}
            for save in sorted({body[1:3] for body in frames}):
                missing[save] = tuple(body[3] for body in every if body[1:3] == save and body not in frames + told)
            self.assertEqual(list(lacks(frames).items()), list(missing.items()))
            self.assertEqual(lacks(frames + told), lacks(frames))
            told_some, lacked_some = told_some + len(told), lacked_some + sum(map(len, missing.values()))
        self.assertGreater(min(told_some, lacked_some), 100)

    def test_told_exactly_if_the_lot_tells_the_payload(self):
        for _ in range(60):
            story, trees = drawn_story(DRAW, 6, 0.6)
            frames = some_frames(DRAW, story)
            told = {(body[1:3], body[3]): body[14:] for body in told_frames(frames)}
            for save, lot in lots_of(frames).items():
                for index in range(lot[0][4]):
                    if index not in [body[3] for body in lot]:
                        payload = told_payload(lot, index)
                        self.assertEqual(None not in payload, (save, index) in told)
                        self.assertEqual(told.get((save, index), payload), payload)

    def test_told_frames_are_in_all_histories_and_no_others(self):
        for _ in range(60):
            story, trees = drawn_story(DRAW, 6, 0.5)
            frames = some_frames(DRAW, story)
            shared = set(all_frames(ARCHIVE, story))
            for _ in range(3):
                shared &= set(all_frames(ARCHIVE, filled(frames, drawn_filling(DRAW, frames))))
            self.assertTrue(set(told_frames(frames)) <= shared)
            named = {body[1:3] for body in frames}
            left = {body for body in shared - set(frames) - set(told_frames(frames)) if body[1:3] in named}
            for body in left:
                save, index = body[1:3], body[3]
                lot = lots_of(frames)[save]
                column = told_payload(lot, index).index(None)
                self.assertLess(len(lot), plain_k(lot[0][12]), (save, index, column))

    def test_a_save_with_k_frames_and_with_one_less(self):
        frames = frames_of(7, (1, 1, None, ("put", "a", tuple(range(15))), 16), 0)
        for some in (frames[:3], frames[13:], frames[1:2] + frames[7:9], frames[::5]):
            self.assertEqual(told_frames(some), tuple(body for body in frames if body not in some))
            self.assertEqual(lacks(some), {(1, 1): ()})
        for some in (frames[:2], frames[14:], frames[2:3], frames[2:12:9]):
            self.assertEqual([told_frames(some), is_closed(some)], [(), True])
            self.assertEqual(lacks(some), {(1, 1): tuple(index for index in range(16) if frames[index] not in some)})
        for n in (1, 2, 16):
            frames = frames_of(7, (1, 2, (1, 1), ("drop", "a"), n), 5)
            self.assertEqual([told_frames(frames[-1:]), lacks(frames[:1])], [frames[:-1], {(1, 2): ()}])
        self.assertEqual([told_frames(()), is_closed(()), lacks(())], [(), True, {}])

    def test_wrong_arguments(self):
        for function in (told_frames, is_closed, lacks):
            wrong.check_wrong(self, function, (FRAMES,), (WRONG_FRAMES,), ((CLASH, (CLASHING,), ()),))


class TextsTest(unittest.TestCase):
    def check_answers(self, frames, others):
        """Each question has the same answer by both, told or open."""
        one, other = Reading(frames), Reading(others)
        self.assertEqual([one.saves, one.gaps, one.versions()], [other.saves, other.gaps, other.versions()])
        for save in one.saves:
            self.assertEqual(one.known_entries(save), other.known_entries(save))
            for question in all_questions(save, ("a", "b", "zz"), (0, 1, 6)):
                found, again = one.answer(question), other.answer(question)
                self.assertEqual(found is None, again is None)
                self.assertTrue(found is None or repr(found[0]) == repr(again[0]))
                self.assertEqual(unlike_histories(others, question) is None, found is not None)

    def test_mending_changes_no_answer(self):
        grown = 0
        for _ in range(25):
            story, trees = drawn_story(DRAW, 6, 0.5)
            frames = some_frames(DRAW, story)
            text = drawn_text(DRAW, frames)
            whole = mended(text)
            self.assertTrue(whole.startswith(text))
            self.assertEqual(bodies_in(whole), tuple(sorted(set(plain_told(story, frames)) | set(frames))))
            self.assertEqual(whole[len(text):], text_of(told_frames(frames)))
            self.assertEqual(mended(whole), whole)
            self.check_answers(frames, bodies_in(whole))
            grown += whole != text
        self.assertGreater(grown, 8)

    def test_cut_at_each_sign_behind_what_stood(self):
        frames = frames_of(7, (1, 1, None, ("put", "a", tuple(range(8))), 5), 0)
        for text in (text_of(frames[2:4]), text_of(frames[::4]) + "#00", "x" + text_of(frames[3:] + frames_of(9, NEXT, 3)[:1])):
            whole = mended(text)
            self.assertGreater(len(whole), len(text))
            for end in range(len(text), len(whole)):
                again = mended(whole[:end])
                self.assertTrue(again.startswith(whole[:end]))
                self.assertEqual(bodies_in(again), bodies_in(whole))
                self.assertEqual([clean(again) == clean(whole), mended(again) == again], [True, True])

    def test_several_archives(self):
        one, other = all_frames(7, STORY), frames_of(9, (3, 1, None, ("put", "c", tuple(range(7))), 4), 0)
        first = frames_of(2, (1, 1, None, ("put", "c", (1,)), 3), 0)
        text = text_of(other[1:3] + one[1:3] + first[2:] + one[1:2] + other[1:2])
        told = first[:2] + tuple(body for body in one if body not in one[1:3] and body[1:3] != (2, 1)) + (other[0], other[3])
        self.assertEqual(mended(text), text + text_of(told))
        everything = bodies_in(mended(text))
        self.assertEqual(clean(mended(text)), text_of(sorted(everything)))
        self.assertEqual(clean(text), text_of(sorted({*other[1:3], *one[1:3], first[2]})))

    def test_one_archive_that_clashes(self):
        sound, lying = all_frames(9, STORY)[:2], all_frames(7, STORY)[:1]
        bent = with_payload(lying[0], 0, (1, 1, 1, 0, 0, 0))
        text = text_of(sound + lying + (bent,))
        reason = ("index", min(bent, lying[0]), max(bent, lying[0]))
        wrong.check_raises(self, (errors.Refused, {"reason": reason}), mended, (text,))
        self.assertEqual(clean(text), text_of(sorted(sound + lying + (bent,))))
        other = with_payload(all_frames(3, STORY)[0], 0, (1, 1, 1, 0, 0, 0))
        both = text + text_of((other,) + all_frames(3, STORY)[:1])
        with self.assertRaises(errors.Refused) as caught:
            mended(both)
        self.assertIs(is_clash((other,) + all_frames(3, STORY)[:1], caught.exception.reason), True)

    def test_a_clash_comes_ahead_of_too_many(self):
        story = tuple((1, number, None, ("put", "a", ()), 16) for number in range(1, 480))
        frames = tuple(body for body in all_frames(7, story) if body[3] == 3)
        wrong.check_raises(self, (errors.TooMany, {"most": 60000}), mended, (text_of(frames),))
        bent = frames_of(8, FIRST, 0)[:1] + frames_of(8, (1, 1, None, ("put", "b", ()), 1), 0)
        reason = ("marks", min(bent), max(bent))
        wrong.check_raises(self, (errors.Refused, {"reason": reason}), mended, (text_of(frames + bent),))

    def test_just_60000_signs_and_more(self):
        frames = frames_of(7, (1, 1, None, ("put", "a", (5,)), 3), 0)
        for signs, right in ((60000 - 3 * 122, True), (60000 - 3 * 122 + 1, False), (60000 - 122, False)):
            text = "x" * signs + made_frame(frames[1])
            if right:
                self.assertEqual(len(mended(text)), 60000)
            else:
                wrong.check_raises(self, (errors.TooMany, {"most": 60000}), mended, (text,))
        self.assertEqual(mended("x" * 60000), "x" * 60000)
        # A frame that is there already needs no room.
        full = "x" * (60000 - 3 * 122) + text_of(frames)
        self.assertEqual(mended(full), full)

    def test_what_stands_is_no_body(self):
        odd = made_frame((7, 1, 1, 5) + (0,) * 16)
        self.assertEqual([clean(odd), mended(odd), clean("abc"), mended("abc"), clean(""), mended("")],
                         ["", odd, "", "abc", "", ""])
        self.assertEqual(clean(odd + made_frame(FRAMES[0]) + "x"), made_frame(FRAMES[0]))

    def test_clean_texts_of_drawn_ones(self):
        for _ in range(40):
            story, trees = drawn_story(DRAW, 6)
            frames = some_frames(DRAW, story)
            text = drawn_text(DRAW, frames)
            self.assertEqual(clean(text), text_of(sorted(set(frames))))
            self.assertEqual(clean(clean(text)), clean(text))

    def test_what_is_not_true(self):
        # A column is told by filling and one frame, and no frame has its row.
        frames = frames_of(7, (1, 1, None, ("put", "a", tuple(range(7))), 4), 0)
        text = made_frame(frames[2])
        self.assertEqual(mended(text), text)
        self.assertEqual(Reading(bodies_in(text)).known_entries((1, 1)), {"a": (None, 1, 2, 3, 4, 5, None)})
        one = Archive(7, 1)
        one.add(("put", "a", tuple(range(7))), more=2)
        some = one.text[244:]
        self.assertEqual(archives.known_saves(mended(some), 7), archives.known_saves(some, 7))
        self.assertNotEqual(clean(mended(some)), clean(some))

    def test_wrong_arguments(self):
        for function in (mended, clean):
            wrong.check_wrong(self, function, ("abc",), (TEXT,))


if __name__ == "__main__":
    unittest.main()
