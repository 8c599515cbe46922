"""The shell: its lines, its answers, and what they change."""

import random
import unittest

from stillread import errors
from stillread.keep.archive import Archive
from stillread.lots.spread import frames_of, with_payload
from stillread.mend.mender import mended
from stillread.read.told import Reading
from stillread.text.damage import damaged, is_script
from stillread.text.frames import bodies_in, made_frame
from stillread.use import shell as shells
from stillread.use import texts
from stillread.use.shell import Shell
from stillread.use.texts import answer_text, deed_text, question_text, read_deed, read_question, tree_text
from tests import wrong
from tests.bodies import plain_k
from tests.examples import run_examples
from tests.sketches import NAMES, drawn_history_deed
from tests.stories import drawn_deed

EXAMPLES = """
>>> shell = Shell(7, 1)
>>> shell.run_all(("put a 5,6,7", "more 1", "patch a 1 1 8,9", "cell 1.2 a 1", "out 0 1", "tree 1.2", "length 1.1 a", "drop a", "saves"))
('saved 1.1', 'more 1', 'saved 1.2', '8', '2 frames', 'open', '3', 'no hand', '1.1 1.2')
>>> shell.run_all(("hand 1", "hand 2", "go 1.2", "drop a", "there 1.1 b", "mend", "cell 3.1 a 0"))
('refused hand 1', 'hand 2', 'unknown 1.2', 'refused gone a', 'open', '2 frames', 'unknown 3.1')
"""
DRAW = random.Random(211)
# A story told line by line, with the answers.
LONG_STORY = (
    ("put log 1,2,3", "saved 3.1"),
    ("more 2", "more 2"),
    ("patch log 3 0 4,5,6,7,8", "saved 3.2"),
    ("put idx 0", "saved 3.3"),
    ("tree 3.3", "idx 0 ; log 1,2,3,4,5,6,7,8"),
    ("go 3.2", "at 3.2"),
    ("rename log old", "saved 3.4"),
    ("there 3.4 log", "no"),
    ("length 3.4 old", "8"),
    ("saves", "3.1 3.2 3.3 3.4"),
    ("mend", "10 frames"),
    # The first save stands in one frame alone; it is lost.
    ("out 0 122", "9 frames"),
    ("saves", "3.1 3.2 3.3 3.4"),
    ("length 3.1 log", "3"),
    ("cell 3.2 log 0", "open"),
    ("cell 3.2 log 4", "5"),
    ("cell 3.4 old 7", "8"),
    ("cell 3.4 old 8", "none"),
    ("tree 3.3", "open"),
    ("there 3.2 idx", "open"),
    ("there 3.3 idx", "yes"),
    ("there 3.1 old", "no"),
    ("cell 3.3 idx 0", "0"),
    ("put log -", "no hand"),
    ("hand 3", "refused hand 3"),
    ("hand 4", "hand 4"),
    ("go 3.3", "unknown 3.3"),
    ("put log 9", "saved 4.1"),
    # Two of three frames of a save are lost, and told again.
    ("out 5 130", "10 frames"),
    ("hand 9", "hand 9"),
    ("mend", "12 frames"),
    ("put log 9", "no hand"),
    ("mend", "12 frames"),
    ("hand 996", "hand 996"),
    ("put log 9", "saved 996.1"),
    ("tree 4.1", "log 9"),
    ("tree 996.1", "log 9"),
)
LINES = (errors.InvalidOperation, [value for value in wrong.ODD if not (
    isinstance(value, str) and len(value) <= 4000 and all(32 <= ord(sign) <= 126 for sign in value))] + [
        "saves\n", "\nsaves", "sa\tves", "x" * 4001, "saves\x00", b"saves", Reading(())])


def state_of(shell):
    return (shell.text, shell.place, str(shell))


class PlainShell:
    """What the document says of the lines, with the objects of the other stages."""

    def __init__(self, archive, hand):
        self.archive, self.writer, self.text, self.place, self.more = archive, Archive(archive, hand), "", None, 0

    def run(self, line):
        try:
            return self.done(line)
        except errors.Refused as error:
            if error.reason[0] in ("gone", "place", "long", "there", "hand"):
                return " ".join(["refused", *map(str, error.reason)])
            return "clash"
        except errors.UnknownName as error:
            return "unknown {}.{}".format(*error.wanted)
        except errors.TooMany as error:
            return "too many {}".format(error.most)
        except (errors.StillError, errors.InvalidNumber):
            return "wrong"

    def frames(self):
        return tuple(body for body in bodies_in(self.text) if body[0] == self.archive)

    def number(self, word):
        if not word.isdigit() or str(int(word[:60])) != word:
            raise errors.InvalidOperation("no number")
        return int(word)

    def save(self, word):
        return read_question("there " + word + " a")[1]

    def done(self, line):
        words = line.split(" ")
        parsers = {"put": read_deed, "patch": read_deed, "drop": read_deed, "rename": read_deed,
                   "there": read_question, "length": read_question, "cell": read_question}
        if words[0] in parsers:
            thing = parsers[words[0]](line)
            return self.saved(thing) if parsers[words[0]] == read_deed else self.asked(thing)
        if (words[0], len(words)) in (("out", 3), ("copy", 4), ("move", 4), ("wrong", 3)):
            act = (words[0],) + tuple(self.number(word) for word in words[1:] if words[0] != "wrong")
            if words[0] == "wrong":
                act = ("wrong", self.number(words[1]), words[2])
            return self.changed(damaged(self.text, (act,)))
        if line == "mend":
            return self.changed(mended(self.text))
        if line == "saves":
            return " ".join("{}.{}".format(*save) for save in Reading(self.frames()).saves) or "none"
        if len(words) == 2 and words[0] in ("go", "more", "hand", "tree"):
            return getattr(self, words[0] + "_to")(words[1])
        return "wrong"

    def saved(self, deed):
        if self.writer is None:
            return "no hand"
        k = plain_k(len(deed[-1]) if deed[0] in ("put", "patch") else 0)
        self.place = self.writer.add(deed, base=self.place, more=min(self.more, 16 - k))
        self.text = self.writer.text
        return "saved {}.{}".format(*self.place)

    def asked(self, question):
        found = Reading(self.frames()).answer(question)
        return answer_text(question, found[0]) if found else "open"

    def changed(self, text):
        if text != self.text:
            self.text, self.writer = text, None
        return "{} frames".format(len(self.frames()))

    def go_to(self, word):
        save = None if word == "-" else self.save(word)
        if save is not None and (self.writer is None or save not in self.writer):
            raise errors.UnknownName(save)
        self.place = save
        return "at " + word

    def more_to(self, word):
        if self.number(word) > 15:
            return "wrong"
        self.more = int(word)
        return "more " + word

    def hand_to(self, word):
        self.writer = Archive.continued(self.text, self.archive, self.number(word))
        self.place = None
        return "hand " + word

    def tree_to(self, word):
        reading, save = Reading(self.frames()), self.save(word)
        if not reading.is_whole(save):
            return "open"
        return tree_text(reading.versions()[save]).replace("\n", " ; ") or "empty"


def drawn_line(draw, plain):
    """A line that often can be done, by what a plain shell knows."""
    names = list(plain.writer.names) if plain.writer else []
    save = draw.choice(names + [(1, 1), (2, 1), (1, 3)])
    word, length = "{}.{}".format(*save), len(plain.text)
    kind = draw.random()
    if kind < 0.35:
        tree = plain.writer.version(plain.place) if plain.writer and plain.place in names else {}
        return deed_text(drawn_history_deed(draw, tree) if draw.random() < 0.85 else drawn_deed(draw))
    if kind < 0.45:
        return draw.choice(("go " + word, "go " + word, "go -", "more {}".format(draw.randint(0, 3))))
    if kind < 0.75:
        question = (draw.choice(("there", "length", "cell")), save, draw.choice(NAMES[:2]))
        return draw.choice((question_text(question + ((draw.randint(0, 4),) if question[0] == "cell" else ())),
                            "tree " + word, "tree " + word, "saves"))
    if kind < 0.85:
        begin = draw.randint(0, length)
        numbers = [begin, min(length, begin + draw.choice((1, 122, 200))), draw.randint(0, length)]
        return draw.choice(("out {} {}".format(*numbers), "copy {} {} {}".format(*numbers), "move {} {} {}".format(*numbers),
                            "wrong {} {}".format(begin, draw.choice("#;0159x"))))
    if kind < 0.97:
        return draw.choice(("mend", "hand {}".format(draw.randint(1, 9)), "hand {}".format(draw.randint(2, 30))))
    return draw.choice(("", "saves x", "mend 1", "go", "more 16", "more 01", "hand 0", "tree -", "put a", "out 1", "out 3 2",
                        "copy 1 2", "wrong 1 xy", " mend", "join x", "tree 1.1 a", "go 1", "hand 997", "tree 1.01"))


class ShellTest(unittest.TestCase):
    def run_each(self, shell, *pairs):
        """Runs lines, and compares their answers."""
        for line, answer in pairs:
            self.assertEqual(shell.run(line), answer, line)

    def test_examples(self):
        run_examples(self, EXAMPLES, {**vars(errors), **vars(texts), **vars(shells)})

    def test_a_new_one(self):
        shell = Shell(7, 1)
        self.assertEqual([shell.text, shell.place, str(shell)], ["", None, "shell of archive 7 with 0 signs"])
        self.run_each(shell, ("saves", "none"), ("mend", "0 frames"), ("tree 1.1", "unknown 1.1"), ("there 1.1 a", "unknown 1.1"))
        archive = (errors.InvalidNumber, wrong.odd_but(lambda value: wrong.is_int(value, 1, 996)) + [0, 997, True])
        wrong.check_wrong(self, Shell, (7, 1), (archive, archive))
        with self.assertRaises(TypeError):
            iter(shell)
        self.assertTrue(shell == shell and shell != Shell(7, 1))

    def test_drawn_lines_beside_a_plain_shell(self):
        answers = {}
        for _ in range(90):
            hand = DRAW.choice((1, 1, 2))
            shell, plain = Shell(7, hand), PlainShell(7, hand)
            for _ in range(DRAW.randint(5, 40)):
                line = drawn_line(DRAW, plain)
                ahead = state_of(shell)
                answer = shell.run(line)
                self.assertEqual(answer, plain.run(line), line)
                self.assertEqual([shell.text, shell.place], [plain.text, plain.place])
                self.assertEqual(str(shell), "shell of archive 7 with {} signs".format(len(plain.text)))
                word = answer.split(" ")[0]
                answers[word] = answers.get(word, 0) + 1
                if word in ("no", "clash", "refused", "unknown", "too", "wrong", "open", "yes", "none"):
                    self.assertEqual(state_of(shell), ahead)
        for word in ("saved", "at", "more", "hand", "open", "yes", "no", "refused", "unknown", "wrong", "none"):
            self.assertGreater(answers.get(word, 0), 0, word)

    def test_saves_on_the_place(self):
        shell = Shell(7, 1)
        self.run_each(
            shell, ("drop a", "refused gone a"), ("put a 5,6,7", "saved 1.1"), ("rename a b", "saved 1.2"), ("go 1.1", "at 1.1"),
            ("patch a 4 0 -", "refused place a"), ("patch a 3 0 1", "saved 1.3"), ("tree 1.3", "a 5,6,7,1"), ("tree 1.2", "b 5,6,7"),
            ("put b -", "saved 1.4"), ("tree 1.4", "a 5,6,7,1 ; b -"), ("rename a b", "refused there b"), ("go -", "at -"),
            ("drop b", "refused gone b"), ("put c -", "saved 1.5"), ("drop c", "saved 1.6"), ("tree 1.6", "empty"),
            ("saves", "1.1 1.2 1.3 1.4 1.5 1.6"), ("go 1.7", "unknown 1.7"), ("go 2.1", "unknown 2.1"))
        self.assertEqual([shell.place, len(shell.text)], [(1, 6), 6 * 122])

    def test_more_frames(self):
        shell = Shell(7, 1)
        self.run_each(shell, ("more 15", "more 15"), ("put a 1", "saved 1.1"), ("mend", "16 frames"), ("put b 1,2,3,4,5,6,7", "saved 1.2"),
                      ("mend", "32 frames"), ("more 0", "more 0"), ("drop a", "saved 1.3"), ("mend", "33 frames"),
                      ("more 14", "more 14"), ("put b 1,2,3,4,5,6,7", "saved 1.4"), ("mend", "49 frames"), ("more 16", "wrong"),
                      ("more 015", "wrong"), ("more -1", "wrong"), ("more", "wrong"), ("more 1 2", "wrong"), ("put a -", "saved 1.5"),
                      ("mend", "64 frames"))

    def test_questions(self):
        shell = Shell(7, 1)
        shell.run("put a 5,6,7")
        self.run_each(
            shell, ("there 1.1 a", "yes"), ("there 1.1 b", "no"), ("length 1.1 a", "3"), ("length 1.1 b", "none"),
            ("cell 1.1 a 2", "7"), ("cell 1.1 a 3", "none"), ("cell 1.1 b 0", "none"), ("cell 1.1 a 995", "none"),
            ("cell 1.1 a 996", "wrong"), ("cell 1.2 a 0", "unknown 1.2"), ("there 1.1", "wrong"), ("length 1.1 a 1", "wrong"))

    def test_the_writer_ahead_of_and_behind_damage(self):
        shell = Shell(7, 1)
        self.run_each(shell, ("put a 5,6,7", "saved 1.1"), ("more 1", "more 1"), ("patch a 0 1 9", "saved 1.2"))
        text = shell.text
        # What changes nothing leaves the writer.
        self.run_each(shell, ("mend", "3 frames"), ("move 0 5 0", "3 frames"), ("move 0 366 0", "3 frames"), ("drop a", "saved 1.3"),
                      ("go 1.2", "at 1.2"), ("out 400 300", "wrong"), ("wrong 0 #", "wrong"), ("put b -", "saved 1.4"))
        self.assertTrue(shell.text.startswith(text))
        self.run_each(shell, ("wrong 5 x", "6 frames"), ("drop a", "no hand"), ("drop z", "no hand"), ("go 1.1", "unknown 1.1"),
                      ("go -", "at -"), ("mend", "6 frames"), ("put a -", "no hand"), ("go 1.2", "unknown 1.2"), ("hand 1", "refused hand 1"),
                      ("put a -", "no hand"), ("hand 2", "hand 2"), ("tree 1.2", "open"), ("length 1.2 a", "3"), ("go 1.2", "unknown 1.2"),
                      ("put q 1", "saved 2.1"), ("mend", "8 frames"), ("saves", "1.1 1.2 1.3 1.4 2.1"), ("hand 2", "refused hand 2"),
                      ("put q 2", "saved 2.2"), ("hand 3", "hand 3"), ("put q 2", "saved 3.1"), ("go 2.2", "at 2.2"))
        self.assertEqual(shell.place, (2, 2))

    def test_acts(self):
        shell = Shell(7, 1)
        shell.run_all(("more 1", "put a 5,6,7"))
        text = shell.text
        for line, act, frames in (
            ("out 0 122", ("out", 0, 122), 1), ("copy 0 244 100", ("copy", 0, 244, 100), 2), ("move 0 122 122", ("move", 0, 122, 122), 2),
            ("wrong 0 x", ("wrong", 0, "x"), 1), ("wrong 243 ;", None, None), ("out 243 244", ("out", 243, 244), 1),
            ("out 0 245", None, None), ("copy 0 1 245", None, None), ("move 0 122 123", None, None), ("out 5 5", None, None),
            ("wrong 244 x", None, None), ("wrong 1 ab", None, None), ("wrong 1", None, None), ("wrong 1 ", None, None),
            ("out 1", None, None), ("out 0 1 2", None, None), ("copy 0 1", None, None), ("move 0 1", None, None), ("out 00 1", None, None),
            ("out -1 1", None, None), ("out a b", None, None), ("put 0 x", None, None), ("join x", None, None), ("wrong 01 x", None, None),
            ("out 0 " + "9" * 90, None, None), ("copy 0 244 244", ("copy", 0, 244, 244), 2), ("out 0 244", ("out", 0, 244), 0),
        ):
            shell = Shell(7, 1)
            shell.run_all(("more 1", "put a 5,6,7"))
            if act is None:
                self.assertEqual([shell.run(line), shell.text], ["wrong", text], line)
            else:
                self.assertIs(is_script(text, (act,)), True)
                self.assertEqual([shell.run(line), shell.text], ["{} frames".format(frames), damaged(text, (act,))], line)
                self.assertEqual([shell.run("drop a"), shell.place], ["no hand", (1, 1)])

    def test_frames_are_counted_once(self):
        shell = Shell(7, 1)
        self.run_each(shell, ("put a 5", "saved 1.1"), ("copy 0 122 122", "1 frames"), ("copy 0 122 0", "1 frames"), ("mend", "1 frames"))

    def test_clashes(self):
        # The lines put a frame of another text there, sign by sign.
        frames = frames_of(7, (1, 1, None, ("put", "a", (5,)), 2), 0)
        lying = made_frame(with_payload(frames[1], 1, (6, 0, 0, 0, 0, 0)))
        shell = Shell(7, 1)
        shell.run_all(("more 1", "put a 5"))
        lines = ["copy 0 122 244"] + ["wrong {} {}".format(244 + at, sign) for at, sign in enumerate(lying)]
        answers = [shell.run(line) for line in lines]
        self.assertEqual(shell.text[244:], lying)
        self.assertEqual([answers[0], answers[-1], shell.run("mend")], ["2 frames", "wrong", "clash"])
        self.run_each(shell, ("there 1.1 a", "clash"), ("cell 9.9 a 0", "clash"), ("tree 1.1", "clash"), ("tree 9.9", "clash"),
                      ("saves", "clash"), ("hand 2", "clash"), ("hand 1", "clash"), ("drop a", "no hand"), ("out 0 1", "2 frames"),
                      ("saves", "clash"), ("out 0 242", "1 frames"), ("saves", "1.1"), ("cell 1.1 a 0", "6"))

    def test_too_many(self):
        shell = Shell(7, 1)
        for number in range(1, 61):
            self.assertEqual(shell.run("put a {}".format(number)), "saved 1.{}".format(number))
        ahead = state_of(shell)
        self.run_each(shell, ("put a 1", "too many 60"), ("drop b", "refused gone b"))
        self.assertEqual(state_of(shell), ahead)
        self.run_each(shell, ("hand 2", "hand 2"), ("more 15", "more 15"))
        saved = 0
        while shell.run("put a 1") != "too many 60000":
            saved += 1
        self.assertEqual([saved, len(shell.text)], [(60000 // 122 - 60) // 16, (60 + 16 * saved) * 122])
        self.run_each(shell, ("more 14", "more 14"), ("put a 1", "saved 2.27"), ("more 0", "more 0"), ("put a 1", "too many 60000"))
        self.run_each(shell, ("out 60 {}".format(len(shell.text) - 244), "2 frames"))

    def test_too_long_a_mended_text(self):
        shell = Shell(7, 1)
        shell.run_all(("more 15",) + tuple("put a {}".format(number) for number in range(30)))
        self.assertEqual(len(shell.text), 480 * 122)
        self.run_each(shell, ("copy 0 122 0", "480 frames"), ("wrong 0 x", "480 frames"), ("wrong 122 x", "479 frames"),
                      ("wrong 244 x", "478 frames"), ("copy 0 1200 0", "478 frames"))
        ahead = state_of(shell)
        self.assertEqual([shell.run("mend"), state_of(shell)], ["too many 60000", ahead])
        self.run_each(shell, ("out 0 1200", "478 frames"), ("mend", "480 frames"))

    def test_lines_that_are_none(self):
        shell = Shell(7, 1)
        shell.run("put a 5")
        ahead = state_of(shell)
        for line in ("", " ", "x", "saves ", " saves", "saves x", "Saves", "mend x", "go", "go 1.1 x", "go 1", "go 01.1", "go a", "go  1.1",
                     "tree", "tree -", "tree 1.1 a", "hand", "hand -", "hand 0", "hand 997", "hand 01", "hand 1.1", "more x", "put", "put a",
                     "put a 5 6", "cell 1.1 a", "rename a a", "x" * 4000, "join x", "text", "place", "undo", "go 997.1", "tree 0.1",
                     "hand " + "9" * 3000, "put a " + "1" * 3000, "yes", "out", "copy", "move", "wrong", "-", "there", "open", "type"):
            self.assertEqual(shell.run(line), "wrong", line[:50])
            self.assertEqual(state_of(shell), ahead)
        self.run_each(shell, ("put b 5", "saved 1.2"))

    def test_lines_of_4000_characters_and_200_lines(self):
        shell = Shell(7, 1)
        self.assertEqual(shell.run("a" * 4000), "wrong")
        self.assertEqual(shell.run_all(("saves",) * 200), ("none",) * 200)
        self.assertEqual(shell.run_all(()), ())
        lines = (errors.InvalidOperation, wrong.odd_but(lambda value: isinstance(value, tuple) and all(
            isinstance(line, str) for line in value)) + [
            ["saves"], ("put a 5",) * 201, ("put a 5", "\x7f"), ("put a 5", None), ("put a 5", "x" * 4001), "saves", ("put a 5", "a\n"), ("saves", ["saves"])])
        wrong.check_wrong(self, shell.run_all, (("saves",),), (lines,))
        wrong.check_wrong(self, shell.run, ("saves",), (LINES,))
        self.assertEqual(state_of(shell), ("", None, "shell of archive 7 with 0 signs"))

    def test_run_all_is_run_line_by_line(self):
        for _ in range(10):
            one, other, plain = Shell(7, 1), Shell(7, 1), PlainShell(7, 1)
            lines = []
            for _ in range(20):
                lines.append(drawn_line(DRAW, plain))
                plain.run(lines[-1])
            self.assertEqual(one.run_all(tuple(lines)), tuple(other.run(line) for line in lines))
            self.assertEqual(state_of(one), state_of(other))

    def test_what_is_not_true(self):
        shell = Shell(7, 1)
        self.run_each(shell, ("put a", "wrong"), ("go x", "wrong"), ("put a 5", "saved 1.1"), ("mend", "1 frames"), ("drop a", "saved 1.2"),
                      ("out 122 200", "1 frames"))
        self.assertEqual([shell.place, shell.run("saves")], [(1, 2), "1.1"])

    def test_a_long_story(self):
        shell = Shell(5, 3)
        for line, answer in LONG_STORY:
            self.assertEqual(shell.run(line), answer, line)
        self.assertEqual(str(shell), "shell of archive 5 with {} signs".format(len(shell.text)))
        self.assertEqual({body[0] for body in bodies_in(shell.text)}, {5})


if __name__ == "__main__":
    unittest.main()
