"""Archives: saves made and heard, and what is known in texts."""

import random
import unittest

from stillread import errors
from stillread.keep import archive as module
from stillread.keep.archive import Archive, known_saves
from stillread.lots.spread import all_frames, frames_of, with_payload
from stillread.paper.checker import has_frames, is_clash
from stillread.plain.histories import is_history, version, versions
from stillread.read.constraints import clash
from stillread.text.cells import window_text
from stillread.text.frames import bodies_in, found_frames, made_frame
from tests import wrong
from tests.bodies import plain_k
from tests.examples import run_examples
from tests.frames import ARCHIVE, drawn_story, plain_column, plain_sights, some_frames
from tests.sketches import drawn_history_deed, wide_deed
from tests.test_histories import APART, FIRST, NEXT, STORY, STORY_ROWS
from tests.test_trees import ODD_DEEDS

EXAMPLES = STORY_ROWS + """
>>> ONE = Archive(7, 1)
>>> [ONE.add(NEW, more=1), ONE.add(("patch", "a", 1, 1, (8, 9)), base=(1, 1), more=1), ONE.known((1, 2)) == NEXT, len(ONE.text), ONE.heads]
[(1, 1), (1, 2), True, 488, ((1, 2),)]
>>> TWO = Archive.continued(ONE.text[:300], 7, 2)
>>> [TWO.names, TWO.add(("rename", "a", "b"), base=(1, 1)), TWO.version((2, 1)), TWO.hear(ONE.text), TWO.names]
[((1, 1),), (2, 1), {'b': (5, 6, 7)}, ((1, 2),), ((1, 1), (1, 2), (2, 1))]
>>> [TWO.history() == STORY, known_saves(ONE.text[122:], 7), known_saves(ONE.text[244:], 7), str(TWO)]
[True, ((1, 1), (1, 2)), (), 'archive 7 of hand 2: 3 saves known']
>>> Archive.continued(ONE.text, 7, 1)
raises Refused(('hand', 1))
"""
DRAW = random.Random(110)
NEW = ("put", "a", (5, 6, 7))
TEXT = (errors.InvalidText, wrong.odd_but(wrong.is_text) + ["a\nb", ["a"]])
NUMBER = (errors.InvalidNumber, wrong.odd_but(lambda value: wrong.is_int(value, 1, 996)) + [0, 997, True])


def text_of(bodies):
    return "".join(made_frame(body) for body in bodies)


def state_of(archive):
    """All that can be seen of an archive."""
    names = archive.names
    return repr((archive.archive, archive.hand, archive.text, names, archive.heads, archive.made, archive.history(),
                 [archive.version(save) for save in names], [archive.known(save) for save in names], len(archive),
                 str(archive)))


def plain_known(frames):
    """The known saves among frames that agree, by the words of [11.1]."""
    told = plain_sights(frames)
    known = set()
    for _ in told:
        for save, sight in told.items():
            k, length = plain_k(sight[2][5]), sight[2][5]
            columns = [plain_column(sight, column) for column in range(6)]
            if all(at // 6 in columns[at % 6] or len(columns[at % 6]) >= k for at in range(length)):
                if sight[1] is None or sight[1] in known:
                    known.add(save)
    return tuple(sorted(known))


def plain_sequence(saves):
    """The known saves, the least one that can be next always next."""
    told, left = [], dict(saves)
    while left:
        ready = [save for save in left if (left[save][2] is None or left[save][2] not in left) and not any(
            other[0] == save[0] and other[1] < save[1] for other in left)]
        told.append(left.pop(min(ready)))
    return tuple(told)


class KnownTest(unittest.TestCase):
    def test_examples(self):
        run_examples(self, EXAMPLES, {**vars(errors), **vars(module)})

    def test_constants(self):
        self.assertEqual((module.MOST_SAVES, module.MOST_TEXT), (60, 60000))

    def test_known_saves_of_drawn_texts(self):
        lengths = set()
        for _ in range(150):
            history, trees = drawn_story(DRAW, 10, 0.4)
            frames = some_frames(DRAW, history)
            text = "#x".join([text_of(frames[at:at + 3]) for at in range(0, len(frames), 3)])
            told = known_saves(text, ARCHIVE)
            self.assertEqual(told, plain_known(frames))
            lengths.add(len(told))
            archive = Archive.continued(text, ARCHIVE, 99)
            self.assertEqual([archive.names, archive.text, archive.made], [told, text, 0])
            saves = {save[:2]: save for save in history}
            for save in told:
                self.assertEqual(archive.version(save), trees[save])
                self.assertEqual(archive.known(save), saves[save])
            self.assertEqual(archive.history(), plain_sequence({save: saves[save] for save in told}))
            self.assertIs(is_history(archive.history()), True)
            bases = {saves[save][2] for save in told}
            self.assertEqual(archive.heads, tuple(save for save in told if save not in bases))
        self.assertGreater(len(lengths), 5)

    def test_other_archives_and_what_is_no_body(self):
        odd = window_text((0,) * 40) + made_frame((1,) * 20)
        text = odd + text_of(all_frames(8, STORY)) + text_of(all_frames(7, STORY[:1])) + odd
        self.assertEqual([known_saves(text, archive) for archive in (7, 8, 9, 1)],
                         [((1, 1),), ((1, 1), (1, 2), (2, 1)), (), ()])
        self.assertEqual([Archive.continued(text, 1, 996).names, Archive.continued(text, 996, 1).names], [(), ()])
        self.assertEqual(known_saves(text_of(all_frames(1, STORY)), 1), ((1, 1), (1, 2), (2, 1)))
        clashing = text + text_of(frames_of(9, (1, 1, None, NEW, 1), 0) + frames_of(9, (1, 1, None, ("put", "b", ()), 1), 0))
        self.assertEqual(known_saves(clashing, 7), ((1, 1),))
        with self.assertRaises(errors.Refused) as caught:
            known_saves(clashing, 9)
        self.assertIs(is_clash(frames_of(9, (1, 1, None, NEW, 1), 0) + frames_of(9, (1, 1, None, ("put", "b", ()), 1), 0),
                               caught.exception.reason), True)

    def test_what_is_known_stays_known_in_longer_texts(self):
        for _ in range(20):
            history, trees = drawn_story(DRAW, 6)
            text, ahead = text_of(all_frames(ARCHIVE, history)), set()
            for end in range(0, len(text) + 1, 61):
                told = set(known_saves(text[:end], ARCHIVE))
                self.assertTrue(ahead <= told)
                ahead = told
            self.assertEqual(ahead, set(trees))

    def test_what_is_not_true(self):
        text = text_of(all_frames(7, STORY))
        self.assertEqual([known_saves(text, 7), known_saves(text[244:], 7)], [((1, 1), (1, 2), (2, 1)), ()])
        self.assertEqual(known_saves(text_of(frames_of(7, NEXT, 3)), 7), ())

    def test_wrong_arguments(self):
        clashing = text_of(frames_of(7, FIRST, 0) + frames_of(7, (1, 1, None, ("put", "b", ()), 1), 0))
        bodies = bodies_in(clashing)
        then = (((errors.Refused, {"reason": clash(bodies)}), (clashing, 7), (0, 1)),)
        wrong.check_wrong(self, known_saves, ("x", 996), (TEXT, NUMBER), then)


class ArchiveTest(unittest.TestCase):
    def test_a_new_one(self):
        one = Archive(996, 1)
        self.assertEqual([one.archive, one.hand, one.text, one.names, one.heads, one.made, len(one), one.history()],
                         [996, 1, "", (), (), 0, 0, ()])
        self.assertEqual(str(one), "archive 996 of hand 1: 0 saves known")
        one.add(NEW)
        self.assertEqual(str(one), "archive 996 of hand 1: 1 saves known")
        with self.assertRaises(TypeError):
            iter(one)

    def test_wrong_numbers(self):
        wrong.check_wrong(self, Archive, (1, 996), (NUMBER, NUMBER))
        text = text_of(all_frames(7, STORY))
        clashing = text + text_of(frames_of(7, (1, 1, None, ("put", "b", ()), 1), 0))
        then = (((errors.Refused, {"reason": clash(bodies_in(clashing))}), (clashing, 7, 5), (0, 1, 2)),
                ((errors.Refused, {"reason": clash(bodies_in(clashing))}), (clashing, 7, 1), ()),
                ((errors.Refused, {"reason": ("hand", 2)}), (text, 7, 2), (0, 1, 2)))
        wrong.check_wrong(self, Archive.continued, (text, 7, 3), (TEXT, NUMBER, NUMBER), then)

    def test_hands_that_frames_name(self):
        text = text_of(frames_of(7, (3, 1, (5, 2), ("drop", "a"), 1), 4)) + text_of(frames_of(8, FIRST, 0))
        for hand, right in ((3, False), (5, False), (1, True), (4, True), (2, True)):
            if right:
                self.assertEqual(Archive.continued(text, 7, hand).text, text)
            else:
                wrong.check_raises(self, (errors.Refused, {"reason": ("hand", hand)}), Archive.continued, (text, 7, hand))

    def test_frames_of_saves_made(self):
        for _ in range(60):
            one = Archive(ARCHIVE, 5)
            trees = {None: {}}
            for number in range(1, DRAW.randint(2, 9)):
                base = DRAW.choice(list(trees))
                deed = wide_deed(DRAW, trees[base]) if DRAW.random() < 0.3 else drawn_history_deed(DRAW, trees[base])
                if base is None and deed[0] != "put":
                    continue
                k, ahead = plain_k(len(deed[-1]) if deed[0] in ("put", "patch") else 0), one.text
                more = DRAW.choice((0, 1, 16 - k))
                length = 0 if deed[0] == "put" else len(trees[base][deed[1]])
                name = one.add(deed, base=base, more=more)
                save = name + (base, deed, k + more)
                self.assertEqual([name, one.made], [(5, one.made), len(one)])
                self.assertEqual(one.text, ahead + text_of(frames_of(ARCHIVE, save, length)))
                self.assertEqual(one.known(name), save)
                self.assertIs(name in one, True)
                trees[name] = one.version(name)
                self.assertEqual(trees[name], version(one.history(), name))
            self.assertEqual(known_saves(one.text, ARCHIVE), one.names)
            self.assertEqual({save: trees[save] for save in one.names}, versions(one.history()))

    def test_wrong_saves(self):
        one = Archive(7, 1)
        one.add(NEW, more=15)
        ahead = state_of(one)
        right = [repr(("put", "a", ())), repr(("drop", "a"))]
        deeds = [value for value in wrong.ODD if repr(value) not in right] + list(ODD_DEEDS)
        bases = [value for value in wrong.odd_but(wrong.is_save_name) if value is not None] + [(0, 1), (1, True), [1, 1]]
        mores = wrong.odd_but(lambda value: wrong.is_int(value, 0, 14)) + [15, 16, -1, True]
        long = ("put", "a", (1,) * 7)
        for deed in deeds:
            self.refused(errors.InvalidDeed, one, deed, None, 0)
            self.refused(errors.InvalidDeed, one, deed, 7, True)
        for base in bases:
            self.refused(errors.InvalidSave, one, long, base, 0)
            self.refused(errors.InvalidSave, one, long, base, 15)
        for more in mores:
            self.refused((errors.InvalidNumber, {"given": more}), one, long, None, more)
            self.refused((errors.InvalidNumber, {"given": more}), one, long, (8, 8), more)
        for deed, base, more, error in (
            (("drop", "q"), (8, 8), 0, (errors.UnknownName, {"wanted": (8, 8)})),
            (("drop", "q"), (1, 1), 0, (errors.Refused, {"reason": ("gone", "q")})),
            (("drop", "a"), None, 0, (errors.Refused, {"reason": ("gone", "a")})),
            (("patch", "a", 4, 0, ()), (1, 1), 0, (errors.Refused, {"reason": ("place", "a")})),
            (("put", "a", (0,) * 48), None, 9, (errors.InvalidNumber, {"given": 9})),
        ):
            self.refused(error, one, deed, base, more)
        self.assertEqual(state_of(one), ahead)
        for deed, more in ((("put", "a", (0,) * 48), 8), (("put", "a", ()), 15), (("put", "a", (1,) * 6), 0)):
            self.assertEqual(one.known(one.add(deed, more=more))[4], plain_k(len(deed[2])) + more)

    def refused(self, error, archive, deed, base, more):
        wanted, kept = error if isinstance(error, tuple) else (error, {})
        with self.assertRaises(wanted) as caught:
            archive.add(deed, base=base, more=more)
        self.assertIs(caught.exception.__class__, wanted)
        for name, value in kept.items():
            self.assertEqual(repr(getattr(caught.exception, name)), repr(value))

    def test_sixty_saves_and_one_more(self):
        one = Archive(7, 1)
        for number in range(1, 61):
            self.assertEqual(one.add(NEW, base=(1, number - 1) if number > 1 else None), (1, number))
        ahead = state_of(one)
        self.refused((errors.TooMany, {"most": 60}), one, NEW, None, 0)
        self.refused((errors.Refused, {"reason": ("gone", "b")}), one, ("drop", "b"), (1, 60), 0)
        self.refused((errors.UnknownName, {"wanted": (1, 61)}), one, NEW, (1, 61), 0)
        self.assertEqual(state_of(one), ahead)
        full = Archive.continued("x" * 60000, 7, 1)
        self.refused((errors.TooMany, {"most": 60000}), full, NEW, None, 0)
        self.assertEqual([full.made, full.names], [0, ()])
        self.assertEqual(one.made, 60)
        self.assertEqual(one.hear(text_of(frames_of(7, (2, 1, (1, 60), ("drop", "a"), 1), 3))), ((2, 1),))

    def test_texts_of_60000_signs_and_one_more(self):
        for many in (1, 2):
            just = Archive.continued("x" * (60000 - 122 * many), 7, 1)
            self.assertEqual(just.add(NEW, more=many - 1), (1, 1))
            self.assertEqual([len(just.text), known_saves(just.text, 7)], [60000, ((1, 1),)])
            over = Archive.continued("x" * (60001 - 122 * many), 7, 1)
            ahead = state_of(over)
            self.refused((errors.TooMany, {"most": 60000}), over, NEW, None, many - 1)
            text = text_of(frames_of(7, (2, 1, None, NEW, many), 0))
            wrong.check_raises(self, (errors.TooMany, {"most": 60000}), over.hear, (text,))
            self.assertEqual(state_of(over), ahead)
            just = Archive.continued("x" * (60000 - 122 * many), 7, 1)
            self.assertEqual(just.hear(text + text), ((2, 1),))
            self.assertEqual([len(just.text), just.hear(text)], [60000, ()])

    def test_hearing(self):
        one = Archive(7, 1)
        one.add(NEW, more=1)
        two = frames_of(7, (2, 1, (1, 1), ("rename", "a", "b"), 3), 3)
        other = frames_of(8, FIRST, 0)
        text = "##" + text_of(two[2:] + other + two[:1] + two[2:]) + text_of(two[1:2])[:-1] + text_of(one_frames(one))
        ahead = one.text
        self.assertEqual(one.hear(text), ((2, 1),))
        self.assertEqual(one.text, ahead + text_of((two[0], two[2])))
        self.assertEqual([one.hear(text), one.hear(""), one.hear(one.text)], [(), (), ()])
        self.assertEqual(one.text, ahead + text_of((two[0], two[2])))
        self.assertEqual(one.hear(text_of(two)), ())
        self.assertEqual(one.text, ahead + text_of((two[0], two[2], two[1])))

    def test_frames_heard_make_others_known(self):
        one = Archive(7, 9)
        wide = frames_of(7, (1, 1, None, ("put", "a", tuple(range(13))), 4), 0)
        late = frames_of(7, (2, 3, (1, 1), ("drop", "a"), 1), 13)
        self.assertEqual([one.hear(text_of(late)), one.hear(text_of(wide[3:])), one.hear(text_of(wide[1:2]))], [(), (), ()])
        self.assertEqual([one.hear(text_of(wide[:1])), one.heads, one.made], [((1, 1), (2, 3)), ((2, 3),), 0])
        self.assertEqual(one.add(("put", "b", ()), base=(2, 3)), (9, 1))
        self.assertEqual(one.version((9, 1)), {"b": ()})

    def test_refused_hearing(self):
        one = Archive(7, 1)
        one.add(NEW, more=1)
        one.add(("drop", "a"), base=(1, 1))
        ahead = state_of(one)
        own = (errors.Refused, {"reason": ("hand", 1)})
        for save, length in (((1, 3, None, NEW, 1), 0), ((1, 1, None, ("put", "b", ()), 1), 0), ((1, 2, (1, 1), ("drop", "a"), 2), 3),
                             ((2, 1, (1, 3), ("drop", "a"), 1), 3), ((2, 1, (1, 996), ("put", "a", ()), 1), 0)):
            wrong.check_raises(self, own, one.hear, (text_of(frames_of(7, save, length)),))
            self.assertEqual(state_of(one), ahead)
        lying = with_payload(frames_of(7, FIRST, 0)[1], 1, (1, 1, 1, 0, 0, 0))
        wrong.check_raises(self, own, one.hear, (made_frame(lying),))
        for save, length, word in (((2, 1, (1, 1), ("drop", "a"), 1), 4, "deed"), ((2, 1, (1, 2), ("drop", "a"), 1), 3, "deed"),
                                   ((2, 1, (1, 2), ("rename", "b", "a"), 1), 3, "deed")):
            text = text_of(frames_of(7, save, length))
            with self.assertRaises(errors.Refused) as caught:
                one.hear(text)
            self.assertEqual(caught.exception.reason[0], word)
            self.assertIs(is_clash(bodies_in(one.text + text), caught.exception.reason), True)
            self.assertEqual(state_of(one), ahead)
        both = text_of(frames_of(7, (2, 1, (1, 1), ("drop", "a"), 1), 4) + frames_of(7, (3, 1, (1, 3), ("drop", "a"), 1), 4))
        wrong.check_raises(self, own, one.hear, (both,))
        for value in TEXT[1]:
            wrong.check_raises(self, errors.InvalidText, one.hear, (value,))
        self.assertEqual(state_of(one), ahead)
        self.assertEqual(one.hear(text_of(frames_of(7, (2, 1, (1, 2), ("put", "a", ()), 1), 0))), ((2, 1),))

    def test_clash_ahead_of_too_many(self):
        full = Archive.continued(text_of(frames_of(7, (2, 1, None, NEW, 1), 0)) + "x" * (60000 - 122), 7, 1)
        text = text_of(frames_of(7, (2, 1, None, ("put", "b", ()), 1), 0))
        with self.assertRaises(errors.Refused) as caught:
            full.hear(text)
        self.assertEqual(caught.exception.reason[0], "marks")
        saves = tuple((2, number, None, NEW, 1) for number in range(1, 492))
        many = Archive.continued(text_of(all_frames(7, saves)), 7, 1)
        other = tuple((3, number, None, NEW, 1) for number in range(1, 492))
        wrong.check_raises(self, (errors.TooMany, {"most": 60000}), many.hear, (text_of(all_frames(7, other)),))
        self.assertEqual([len(many), len(many.text)], [491, 59902])

    def test_values_in_an_archive(self):
        one = Archive(7, 1)
        one.add(NEW)
        for value in wrong.ODD + ((1, 2), (True, 1), (1, True), [1, 1], (1, 1, 1), one, {(1, 1): 1}, ((1, 1),)):
            self.assertIs(value in one, wrong.is_save_name(value) and value == (1, 1), repr(value)[:60])
        for function in (one.version, one.known):
            save = (errors.InvalidSave, wrong.odd_but(wrong.is_save_name) + [(0, 1), (1, True), [1, 1], one])
            wrong.check_wrong(self, function, ((1, 1),), (save,), (((errors.UnknownName, {"wanted": (1, 2)}), ((1, 2),), ()),))

    def test_nothing_is_shared(self):
        one = Archive(7, 1)
        cells = (5, 6, 7)
        one.add(("put", "a", cells))
        ahead = state_of(one)
        one.version((1, 1)).clear()
        one.version((1, 1))["z"] = ()
        self.assertEqual(state_of(one), ahead)
        two = Archive.continued(one.text, 7, 2)
        two.add(("drop", "a"), base=(1, 1))
        self.assertEqual([state_of(one), len(two)], [ahead, 2])
        self.assertTrue(one != two and not one == two and one == one)
        for value in wrong.ODD:
            self.assertIs(one == value, False)


def one_frames(archive):
    return tuple(body for place, body in found_frames(archive.text))


class ManyArchivesTest(unittest.TestCase):
    def test_archives_that_save_and_hear_stretches(self):
        for _ in range(25):
            archives, story, trees, next_hand = [Archive(ARCHIVE, hand) for hand in (1, 2, 3)], [], {None: {}}, 4
            for _ in range(DRAW.randint(5, 22)):
                one, other = DRAW.sample(archives, 2)
                kind = DRAW.random()
                if kind < 0.5:
                    self.check_saved(one, story, trees)
                elif kind < 0.85:
                    self.check_heard(one, other)
                elif next_hand < 8:
                    archives.append(self.gone_on(one, next_hand))
                    next_hand += 1
            self.check_story(archives, tuple(story), trees)

    def check_saved(self, one, story, trees):
        """Makes a drawn save, and tells the story of all archives."""
        base = DRAW.choice((None,) + one.names * 2 + one.heads * 2)
        tree = trees[base]
        deed = ("put", "c", (1, 2)) if base is None else drawn_history_deed(DRAW, tree)
        if DRAW.random() < 0.2:
            deed = wide_deed(DRAW, tree) if base else ("put", "d", tuple(range(20)))
        k = plain_k(len(deed[-1]) if deed[0] in ("put", "patch") else 0)
        more = DRAW.choice((0, 0, 1, 3))
        name = one.add(deed, base=base, more=more)
        story.append(name + (base, deed, k + more))
        trees[name] = one.version(name)

    def check_heard(self, one, other):
        """Lets one hear stretches of another one's text."""
        ahead, text = one.names, other.text
        stretches = []
        for _ in range(DRAW.randint(1, 3)):
            begin = DRAW.randint(0, max(0, len(text) - 122))
            stretches.append(text[begin:DRAW.randint(begin + 122, begin + 900)])
        DRAW.shuffle(stretches)
        whole = DRAW.random() < 0.4
        told = one.hear(text if whole else "".join(stretches))
        self.assertEqual(told, tuple(save for save in one.names if save not in ahead))
        self.assertTrue(set(ahead) <= set(one.names))
        if whole:
            self.assertTrue(set(other.names) <= set(one.names))

    def gone_on(self, one, hand):
        """One that goes on from a beginning of another one's text."""
        begin = one.text[:DRAW.randint(0, len(one.text))]
        going_on = Archive.continued(begin, one.archive, hand)
        self.assertTrue(set(going_on.names) <= set(one.names))
        self.assertEqual([going_on.text, going_on.made], [begin, 0])
        return going_on

    def check_story(self, archives, story, trees):
        """All frames agree, and what is known is so in the one history."""
        self.assertIs(is_history(story), True)
        frames = tuple(sorted({body for one in archives for body in one_frames(one)}))
        self.assertIsNone(clash(frames[:491]))
        self.assertIs(has_frames(story, frames[:491]), True)
        saves = {save[:2]: save for save in story}
        for one in archives:
            self.assertEqual(one.names, known_saves(one.text, ARCHIVE))
            self.assertEqual(one.names, plain_known(one_frames(one)))
            for save in one.names:
                self.assertEqual([one.version(save), one.known(save)], [trees[save], saves[save]])
            self.assertEqual(one.history(), plain_sequence({save: saves[save] for save in one.names}))
            self.assertEqual(len(one_frames(one)), len(set(one_frames(one))))

    def test_the_sequence_of_a_history(self):
        one = Archive(7, 5)
        one.hear(text_of(all_frames(7, ((3, 1, None, NEW, 1), (2, 2, (3, 1), NEW, 1), (2, 9, None, NEW, 1), (1, 4, (2, 9), NEW, 1)))))
        self.assertEqual([save[:2] for save in one.history()], [(3, 1), (2, 2), (2, 9), (1, 4)])
        one = Archive(7, 5)
        one.hear(text_of(all_frames(7, (FIRST, APART, NEXT))))
        self.assertEqual(one.history(), STORY)


if __name__ == "__main__":
    unittest.main()
