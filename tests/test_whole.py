"""The main statements, over the whole program: texts of several hands, damaged, mended, and gone on from."""

import random
import unittest

from stillread import errors
from stillread.keep.archive import Archive, known_saves
from stillread.keep.folds import kept
from stillread.lots.gather import known_places, lots_of
from stillread.lots.spread import all_frames
from stillread.mend.mender import clean, mended, told_frames
from stillread.need.least import borne, least_further, least_loss
from stillread.need.spread import cut_signs, spread_text
from stillread.paper.checker import answer_in, has_frames, is_clash, is_unlike, takes
from stillread.plain.histories import is_history, origins, row_to
from stillread.read.constraints import clash, gaps, said, sketch_of
from stillread.read.told import Reading, answer_of, reach
from stillread.read.unlike import filled, some_filling, unlike_histories
from stillread.text.damage import damaged, is_fair, is_surely_fair
from stillread.text.frames import bodies_in, made_frame
from tests.bodies import plain_k
from tests.frames import ARCHIVE, bent_frames, drawn_story, history_for, some_frames
from tests.sketches import NAMES, drawn_history_deed, wide_deed
from tests.test_told import all_questions

DRAW = random.Random(220)
FEW = (0, 2, 6, 995)


def text_of(frames):
    return "".join(made_frame(body) for body in frames)


def drawn_saves(draw, archives, story, trees, many):
    """Lets archives save, and hear one another's texts."""
    for _ in range(many):
        one, other = draw.sample(archives, 2)
        if draw.random() < 0.3:
            one.hear(other.text)
            continue
        base = draw.choice((None,) + one.names * 2 + one.heads * 2)
        if base is None:
            deed = ("put", draw.choice(NAMES[:3]), tuple(range(draw.choice((1, 3, 8)))))
        else:
            deed = wide_deed(draw, trees[base]) if draw.random() < 0.2 else drawn_history_deed(draw, trees[base])
        k = plain_k(len(deed[-1]) if deed[0] in ("put", "patch") else 0)
        more = draw.choice((0, 0, 1, 3))
        save = one.add(deed, base=base, more=more)
        story.append(save + (base, deed, k + more))
        trees[save] = one.version(save)


def drawn_damage(draw, text):
    """A script of cuts, copies, moves and a wrong sign."""
    script = []
    for _ in range(draw.randint(1, 3)):
        length = len(damaged(text, tuple(script)))
        if length < 4:
            break
        begin = draw.randint(0, length - 2)
        end = min(length, begin + draw.choice((1, 122, 300, 700)))
        act = draw.choice((("out", begin, end), ("out", begin, end), ("copy", begin, end, draw.randint(0, length)),
                           ("wrong", begin, draw.choice("#;x0")), ("put", begin, "x#0")))
        if act[0] != "wrong" or damaged(text, tuple(script))[begin] != act[2]:
            script.append(act)
    return tuple(script)


class ManyHandsTest(unittest.TestCase):
    def test_texts_of_several_hands(self):
        counts = {True: 0, False: 0}
        for _ in range(25):
            archives, story, trees = [Archive(ARCHIVE, hand) for hand in (1, 2, 3)], [], {}
            drawn_saves(DRAW, archives, story, trees, DRAW.randint(4, 14))
            left = "".join(damaged(one.text, drawn_damage(DRAW, one.text)) for one in archives)
            written = set(all_frames(ARCHIVE, tuple(story)))
            if not set(bodies_in(left)) <= written:
                continue
            self.check_read(left, tuple(story), trees, counts)
            self.check_gone_on(left, archives, story, trees, counts)
        self.assertGreater(min(counts.values()), 20)

    def check_read(self, text, story, trees, counts):
        """What is told is so in the history, with a paper; what is open has two histories; mending changes nothing."""
        frames = bodies_in(text)
        self.assertIsNone(clash(frames))
        reading, more = Reading(frames), Reading(bodies_in(mended(text)))
        every = Reading(all_frames(ARCHIVE, story)[:491])
        for save in DRAW.sample(reading.saves, min(4, len(reading.saves))):
            for question in all_questions(save, NAMES[:4], FEW):
                found, again = reading.answer(question), more.answer(question)
                counts[found is None] += 1
                self.assertEqual(found is None, again is None)
                if found is None:
                    self.assertIs(is_unlike(frames, question, unlike_histories(frames, question)), True)
                    continue
                self.assertEqual(repr(found[0]), repr(answer_in(story, question)))
                self.assertEqual([repr(again[0]), repr(every.answer(question)[0])], [repr(found[0])] * 2)
                self.assertIs(takes(frames, question, found[0], found[1]), True)
                self.assertIs(takes(bodies_in(mended(text)), question, found[0], found[1]), True)
        for save in known_saves(text, ARCHIVE):
            self.assertEqual(reading.versions()[save], trees[save])

    def check_gone_on(self, text, archives, story, trees, counts):
        """Another hand goes on from what is left; it agrees with all others."""
        four = Archive.continued(mended(text), ARCHIVE, 4)
        drawn_saves(DRAW, [four, Archive(ARCHIVE, 5)], story, trees, 3)
        history = tuple(story)
        self.assertIs(is_history(history), True)
        for one in archives:
            one.hear(four.text)
            self.assertTrue(set(four.names) <= set(one.names))
        self.assertIs(has_frames(history, bodies_in(archives[0].text)[:491]), True)
        joined = clean(archives[0].text + four.text[-122:])
        self.check_read(joined, history, trees, counts)

    def test_whole_saves_are_kept_by_few_frames(self):
        done = 0
        for _ in range(30):
            archives, story, trees = [Archive(ARCHIVE, hand) for hand in (1, 2)], [], {}
            drawn_saves(DRAW, archives, story, trees, 8)
            frames = bodies_in(archives[0].text)
            whole = tuple(Reading(frames).versions())[-6:]
            told, names = kept(frames, whole, 77, more=1)
            text = spread_text(told) if len({body[1:3] for body in told}) <= 12 else clean(text_of(told))
            if told and len(text) == 122 * len(told) and len({body[1:3] for body in told}) <= 12:
                cut = DRAW.randint(0, max(0, len(text) - cut_signs(1)))
                text = text[:cut] + text[cut + cut_signs(1):]
                done += 1
            after = Reading(bodies_in(mended(text)))
            self.assertEqual([after.versions()[name] if name else {} for name in names], [trees[save] for save in whole])
        self.assertGreater(done, 10)


class StatementsTest(unittest.TestCase):
    def test_a_clash_or_a_history(self):
        counts = {True: 0, False: 0}
        for _ in range(200):
            story, trees = drawn_story(DRAW, 7)
            frames = some_frames(DRAW, story)
            frames = bent_frames(DRAW, frames) if DRAW.random() < 0.6 else frames
            found = clash(frames)
            counts[found is None] += 1
            if found is None:
                history = filled(frames, some_filling(frames))
                self.assertTrue(is_history(history) and has_frames(history, frames))
            else:
                self.assertIs(is_clash(frames, found), True)
                for function in (Reading, some_filling, told_frames):
                    with self.assertRaises(errors.Refused) as caught:
                        function(frames)
                    self.assertIs(is_clash(frames, caught.exception.reason), True)
        self.assertGreater(min(counts.values()), 30)

    def test_told_or_open(self):
        for _ in range(25):
            story, trees = drawn_story(DRAW, 6)
            frames = some_frames(DRAW, story)
            sketch = sketch_of(frames)
            others = [story] + [history_for(DRAW, frames, sketch, {
                gap: {name: (DRAW.randrange(997),) * length for name, length in said(sketch, gap).items() if length is not None}
                for gap in gaps(sketch)}) for _ in range(2)]
            for save in Reading(frames).saves:
                for question in all_questions(save, NAMES, FEW):
                    answers = {repr(answer_in(history, question)) for history in others}
                    found, pair = answer_of(frames, question), unlike_histories(frames, question)
                    self.assertEqual(found is None, pair is not None)
                    if found is not None:
                        self.assertEqual(answers, {repr(found[0])})

    def test_exactly(self):
        cells = [0, 0]
        for _ in range(60):
            story, trees = drawn_story(DRAW, 7, 0.4)
            frames = some_frames(DRAW, story)
            reading, lots = Reading(frames), lots_of(frames)
            for save in reading.saves:
                for name, entry in reading.known_entries(save).items():
                    for (hand, number, index), cell in zip(origins(story, save, name), entry):
                        row = row_to(story, save)
                        behind = row[row.index((hand, number)):]
                        there = all(one in lots for one in behind)
                        if there:
                            lot = lots[(hand, number)]
                            known = known_places(lot, index % 6)
                            there = index // 6 in known or len(known) >= plain_k(lot[0][12])
                        self.assertIs(cell is not None, there)
                        cells[there] += 1
        self.assertGreater(min(cells), 200)

    def test_what_is_told_of_gaps(self):
        for _ in range(60):
            story, trees = drawn_story(DRAW, 8)
            frames = some_frames(DRAW, story)
            sketch, reading = sketch_of(frames), Reading(frames)
            self.assertEqual(reading.gaps, gaps(sketch))
            for gap in reading.gaps:
                told = said(sketch, gap)
                self.assertEqual(reading.known_entries(gap), {
                    name: (None,) * length for name, length in told.items() if length is not None})
                for name in NAMES + ("q",):
                    found = reading.answer(("length", gap, name))
                    self.assertEqual(None if found is None else (found[0],), (told[name],) if name in told else None)

    def test_mended_twice_and_cut_off(self):
        for _ in range(15):
            story, trees = drawn_story(DRAW, 5, 0.5)
            text = text_of(some_frames(DRAW, story))
            whole = mended(text)
            self.assertEqual(mended(whole), whole)
            for end in sorted({len(text), len(whole), *(DRAW.randint(len(text), len(whole)) for _ in range(6))}):
                self.assertEqual(bodies_in(mended(whole[:end])), bodies_in(whole))

    def test_fair_damage(self):
        fair = 0
        for _ in range(60):
            story, trees = drawn_story(DRAW, 4)
            text = text_of(all_frames(ARCHIVE, story))
            script = drawn_damage(DRAW, text)
            if is_surely_fair(text, script):
                fair += 1
                self.assertIs(is_fair(text, script), True)
                self.assertTrue(set(bodies_in(damaged(text, script))) <= set(all_frames(ARCHIVE, story)))
        self.assertGreater(fair, 20)

    def test_fewest_frames_that_are_lacking_and_that_can_be_lost(self):
        helped = 0
        for _ in range(60):
            story, trees = drawn_story(DRAW, 6, 0.5)
            every, frames = all_frames(ARCHIVE, story), some_frames(DRAW, story)
            reading = Reading(frames)
            for save in reading.saves:
                for name in reading.known_entries(save):
                    more = least_further(frames, save, name)
                    if more is not None:
                        helped += len(more)
                        both = frames + tuple(body for body in every if body[1:4] in more)
                        self.assertEqual(Reading(both).known_entries(save)[name], trees[save][name])
            for save in trees:
                for name in [name for name in trees[save] if trees[save][name]][:2]:
                    lost = least_loss(story, save, name, 0)
                    self.assertLess(borne(story, save, name), len(lost))
                    left = Reading(tuple(body for body in every if body[1:4] not in lost))
                    self.assertTrue(save not in left.saves or left.answer(("cell", save, name, 0)) is None)
        self.assertGreater(helped, 20)

    def test_what_is_not_true(self):
        # The later frames of a branch do not tell what the earlier ones said.
        story = ((1, 1, None, ("put", "a", (1,)), 1), (1, 2, (1, 1), ("put", "b", (2,)), 1))
        frames = all_frames(7, story)
        self.assertIsNone(answer_of(frames[1:], ("there", (1, 1), "a")))
        # Of the second save none stands, of the others k.
        story += ((1, 3, (1, 2), ("put", "c", ()), 1),)
        some = tuple(body for body in all_frames(7, story) if body[2] != 2)
        self.assertIsNone(answer_of(some, ("there", (1, 3), "b")))
        # What is told of a branch hangs on the other one.
        apart = story[:1] + ((2, 1, (1, 1), ("put", "z", ()), 1), (3, 1, (1, 1), ("drop", "a"), 1))
        both = all_frames(7, apart)[1:]
        self.assertIsNone(answer_of(both[:1], ("there", (2, 1), "a")))
        self.assertIs(answer_of(both, ("there", (2, 1), "a"))[0], True)

    def test_equal_calls(self):
        for _ in range(10):
            story, trees = drawn_story(DRAW, 5)
            frames = some_frames(DRAW, story)
            for function in (clash, sketch_of, some_filling, told_frames):
                self.assertEqual(repr(function(frames)), repr(function(frames[::-1])))
            for save in Reading(frames).saves:
                self.assertEqual(reach(frames, save, "a"), reach(frames[::-1], save, "a"))
                for question in all_questions(save, ("a", "b"), (0,)):
                    self.assertEqual(unlike_histories(frames, question), unlike_histories(frames[::-1], question))


if __name__ == "__main__":
    unittest.main()
