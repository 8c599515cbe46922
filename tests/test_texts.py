"""Texts of deeds, questions, trees and histories, and what is read back from them."""

import random
import unittest

from stillread import errors
from stillread.plain.histories import is_history
from stillread.plain.trees import is_deed, is_tree
from stillread.read.told import Reading
from stillread.use import texts as module
from stillread.use.texts import (
    answer_text, deed_text, history_text, question_text, read_deed, read_history, read_question, read_tree, tree_text,
)
from tests import wrong
from tests.examples import run_examples
from tests.stories import drawn_deed, drawn_history, drawn_tree
from tests.test_checker import HISTORY, QUESTION
from tests.test_folds import TREE
from tests.test_histories import STORY, STORY_ROWS
from tests.test_trees import ODD_DEEDS

EXAMPLES = STORY_ROWS + """
>>> [deed_text(("patch", "a", 2, 1, ())), read_deed("put a 5,0,7"), question_text(("cell", (1, 2), "a", 3)), tree_text({"a": (), "b": (1, 2)}), history_text(STORY[:2])]
['patch a 2 1 -', ('put', 'a', (5, 0, 7)), 'cell 1.2 a 3', 'a -\\nb 1,2', '1.1 - 2 put a 5,6,7\\n1.2 1.1 2 patch a 1 1 8,9']
>>> read_deed("patch a 2 01 -")
raises ParseError(3)
"""
DRAW = random.Random(210)
BENT = tuple(value for value in wrong.ODD if not isinstance(value, str))


def words_right(value, starts):
    """The greatest number of first words of a value for which some text of a list begins with just these words."""
    if not isinstance(value, str) or "" in value.split(" "):
        return 0
    words = value.split(" ")
    return max([many for many in range(len(words) + 1) if any(start[:many] == words[:many] for start in starts)])


def drawn_questions(draw, many):
    for _ in range(many):
        save = (draw.choice((1, 9, 10, 996, draw.randint(1, 996))), draw.choice((1, 100, draw.randint(1, 996))))
        name = draw.choice(("a", "zz", "abcd"))
        yield draw.choice((("there", save, name), ("length", save, name), ("cell", save, name, draw.choice((0, 5, 995)))))


def bent_text(draw, text):
    """A text with a sign or two changed, put in or left out."""
    for _ in range(draw.choice((1, 1, 2))):
        at = draw.randint(0, len(text))
        sign = draw.choice(" \n.,-0197apdz")
        text = draw.choice((text[:at] + sign + text[at:], text[:at] + text[at + 1:], text[:at] + sign + text[at + 1:]))
    return text


class DeedsTest(unittest.TestCase):
    def check_parsed(self, function, value, at):
        wrong.check_raises(self, (errors.ParseError, {"at": at}), function, (value,))

    def test_examples(self):
        run_examples(self, EXAMPLES, {**vars(errors), **vars(module)})

    def test_each_deed_has_its_text(self):
        for deed, text in (
            (("put", "a", ()), "put a -"), (("put", "zzzz", (0, 996, 10)), "put zzzz 0,996,10"), (("drop", "a"), "drop a"),
            (("patch", "a", 0, 996, (7,)), "patch a 0 996 7"), (("patch", "a", 100, 0, ()), "patch a 100 0 -"),
            (("rename", "a", "b"), "rename a b"), (("put", "put", (0,)), "put put 0"), (("drop", "drop"), "drop drop"),
            (("put", "a", (1,) * 48), "put a " + ",".join("1" * 48)),
        ):
            self.assertEqual([deed_text(deed), read_deed(text)], [text, deed])
        seen = {}
        for _ in range(600):
            deed = drawn_deed(DRAW)
            text = deed_text(deed)
            self.assertEqual(repr(read_deed(text)), repr(deed))
            self.assertEqual(seen.setdefault(text, deed), deed)

    def test_each_question_has_its_text(self):
        for question in drawn_questions(DRAW, 400):
            text = question_text(question)
            word, (hand, number), *rest = question
            self.assertEqual(text, " ".join([word, "{}.{}".format(hand, number)] + [str(part) for part in rest]))
            self.assertEqual(repr(read_question(text)), repr(question))

    def test_words_of_which_the_first_ones_alone_are_right(self):
        for text, at in (
            ("", 0), (" ", 0), ("put", 1), ("put ", 0), (" put a -", 0), ("put a - ", 0), ("put  a -", 0), ("put a", 2),
            ("put a -", None), ("put a - -", 3), ("put a -\n", 2), ("put\na -", 0), ("Put a -", 0), ("put A -", 1),
            ("put abcde -", 1), ("put a 5,", 2), ("put a ,5", 2), ("put a 05", 2), ("put a 997", 2), ("put a 5,,6", 2),
            ("put a 5, 6", 2), ("put a --", 2), ("put a -5", 2), ("put a +5", 2), ("put a 0", None), ("put a 00", 2),
            ("put a " + ",".join("1" * 49), 2), ("put a " + "1" * 5000, 2), ("put a 1_0", 2), ("put a 1.0", 2), ("put a ()", 2),
            ("patch", 1), ("patch a", 2), ("patch a 2", 3), ("patch a 2 1", 4), ("patch a 997 1 -", 2), ("patch a 2 997 -", 3),
            ("patch a 02 1 -", 2), ("patch a 2 01 -", 3), ("patch a 2 1 997", 4), ("patch a 2 1 - -", 5), ("patch a - 1 -", 2),
            ("patch a 996 996 -", None), ("patch a 2 -", 3), ("patch a 2,1 1 -", 2), ("patch a 2 1 01", 4),
            ("drop", 1), ("drop a", None), ("drop a b", 2), ("drop -", 1), ("drop 1.1", 1), ("rename a", 2), ("rename a a", 2),
            ("rename a b", None), ("rename a b c", 3), ("rename a a c", 2), ("rename a B", 2), ("there 1.1 a", 0), ("x", 0),
            ("put\ta -", 0), ("drop a\t", 1), ("-", 0), ("putt a -", 0),
        ):
            if at is None:
                self.assertEqual(deed_text(read_deed(text)), text)
            else:
                self.check_parsed(read_deed, text, at)
        for text, at in (
            ("", 0), ("there", 1), ("there 1.1", 2), ("there 1.1 a", None), ("there 1.1 a 0", 3), ("there 01.1 a", 1),
            ("there 1.01 a", 1), ("there 0.1 a", 1), ("there 1.997 a", 1), ("there 1 a", 1), ("there 1.1.1 a", 1),
            ("there 1. a", 1), ("there .1 a", 1), ("there - a", 1), ("there 1.1 -", 2), ("there 1.1 abcde", 2), ("there 1,1 a", 1),
            ("length 996.996 zzzz", None), ("length 1.1 a a", 3), ("cell 1.1 a", 3), ("cell 1.1 a 0", None), ("cell 1.1 a 995", None),
            ("cell 1.1 a 996", 3), ("cell 1.1 a 00", 3), ("cell 1.1 a -", 3), ("cell 1.1 a 0 0", 4), ("cell  1.1 a 0", 0),
            ("cell 1.1 a " + "9" * 70, 3), ("put a -", 0), ("There 1.1 a", 0), ("there 1.1 a ", 0), ("there 1.1  a", 0),
            ("there 1.1\na", 1), ("cell 1.1 a\n0", 2), ("there " + "1" * 5000 + ".1 a", 1),
        ):
            if at is None:
                self.assertEqual(question_text(read_question(text)), text)
            else:
                self.check_parsed(read_question, text, at)

    def test_bent_texts_tell_how_many_words_are_right(self):
        starts = [words.split(" ") for words in (
            "put a 5", "put zz -", "put abcd 5,0", "patch a 0 0 -", "drop a", "rename a zz", "there 1.1 a", "cell 1.1 a 0")]
        broken = 0
        for _ in range(1500):
            text = bent_text(DRAW, deed_text(drawn_deed(DRAW, 3)) if DRAW.random() < 0.7 else question_text(
                next(drawn_questions(DRAW, 1))))
            for function, again, judge in ((read_deed, deed_text, is_deed), (read_question, question_text, None)):
                try:
                    found = function(text)
                except errors.ParseError as error:
                    broken += 1
                    words = text.split(" ")
                    self.assertTrue(0 <= error.at <= len(words))
                    self.check_first_words(function, words, error.at)
                    self.assertGreaterEqual(error.at, words_right(text, [start for start in starts if self.is_of(
                        function, start)]))
                else:
                    self.assertEqual(again(found), text)
                    self.assertTrue(judge is None or judge(found))
        self.assertGreater(broken, 500)

    def is_of(self, function, start):
        return (start[0] in ("there", "cell")) == (function == read_question)

    def check_first_words(self, function, words, at):
        """The first words can be gone on from, and with one word more they cannot."""
        ends = ([], ["a"], ["-"], ["a", "-"], ["b"], ["zz"], ["0", "-"], ["0", "0", "-"], ["a", "0", "0", "-"], ["1.1", "a"],
                ["1.1", "a", "0"], ["a", "0"], ["0"], ["a", "b"], ["b", "a"])
        if "" in words:
            self.assertEqual(at, 0)
            return
        self.assertTrue(at == 0 or any(self.is_read(function, words[:at] + end) for end in ends), (words, at))
        if at < len(words):
            self.assertFalse(any(self.is_read(function, words[:at + 1] + end) for end in ends), (words, at))

    def is_read(self, function, words):
        try:
            function(" ".join(words))
        except errors.ParseError:
            return False
        return True

    def test_answers(self):
        there, length, cell = ("there", (1, 1), "a"), ("length", (1, 1), "a"), ("cell", (1, 1), "a", 3)
        self.assertEqual([answer_text(there, True), answer_text(there, False)], ["yes", "no"])
        for question in (length, cell):
            self.assertEqual([answer_text(question, answer) for answer in (None, 0, 5, 100, 996)],
                             ["none", "0", "5", "100", "996"])
        one = (errors.InvalidOperation, [value for value in wrong.ODD if value is not True and value is not False] + [Reading(())])
        wrong.check_wrong(self, answer_text, (there, True), (QUESTION, one))
        number = (errors.InvalidOperation, wrong.odd_but(lambda value: value is None or wrong.is_int(value, 0, 996)) + [
            True, False, 997, -1, "5", Reading(())])
        for question in (length, cell):
            wrong.check_wrong(self, answer_text, (question, 5), (QUESTION, number))

    def test_wrong_arguments(self):
        right = [repr(("put", "a", ())), repr(("drop", "a"))]
        deed = (errors.InvalidDeed, [value for value in wrong.ODD if repr(value) not in right] + list(ODD_DEEDS))
        wrong.check_wrong(self, deed_text, (("drop", "a"),), (deed,))
        wrong.check_wrong(self, question_text, (("there", (1, 1), "a"),), (QUESTION,))
        for value in BENT:
            for function in (read_deed, read_question, read_tree, read_history):
                self.check_parsed(function, value, 0)
        for value in ("x" * 61000, " " * 61000, "a b " * 15000, "\n" * 61000, "put a " + "1," * 30000, "1.1 " * 15000):
            for function in (read_deed, read_question, read_tree, read_history):
                with self.assertRaises(errors.ParseError):
                    function(value)


class RowsTest(unittest.TestCase):
    def check_parsed(self, function, value, at):
        wrong.check_raises(self, (errors.ParseError, {"at": at}), function, (value,))

    def test_each_tree_has_its_text(self):
        for _ in range(300):
            tree = drawn_tree(DRAW)
            turned = {name: tree[name] for name in DRAW.sample(sorted(tree), len(tree))}
            text = tree_text(turned)
            self.assertEqual(text, tree_text(tree))
            self.assertEqual(list(read_tree(text).items()), sorted(tree.items()))
            self.assertEqual(len(text.split("\n")) if text else 0, len(tree))
        for length in (48, 49, 996):
            tree = {"a": tuple(range(length))}
            self.assertEqual(read_tree(tree_text(tree)), tree)
        self.assertEqual([tree_text({}), read_tree("")], ["", {}])

    def test_rows_of_trees(self):
        for text, at in (
            ("a -\nb 1,2", None), ("a -\n", 1), ("\na -", 0), ("a -\n\nb 1", 1), ("\n", 0), ("a", 0), ("a -\na 1", 1),
            ("b -\na -", 1), ("a -\nb -\nab -", 2), ("a -\nab -\nb -", None), ("a -\nb - ", 1), ("a  -", 0), (" a -", 0),
            ("a 01", 0), ("a 997", 0), ("a 1,", 0), ("a 1\nb", 1), ("a 1 2", 0), ("A 1", 0), ("a " + ",".join(["0"] * 997), 0),
            ("a " + ",".join(["0"] * 996), None), ("a -\nb 1\nc x\nd 1", 2), ("- -", 0), (" ", 0), ("a -\r\nb -", 0), ("a 5,06", 0),
            ("a " + "1" * 5000, 0), ("z 1\nzz 2\nzzz 3\nzzzz 4\nzzzzz 5", 4),
        ):
            if at is None:
                self.assertEqual(tree_text(read_tree(text)), text)
            else:
                self.check_parsed(read_tree, text, at)

    def test_each_history_has_its_text(self):
        for _ in range(150):
            history, trees = drawn_history(DRAW, 9)
            text = history_text(history)
            self.assertEqual(repr(read_history(text)), repr(history))
            self.assertEqual(text.split("\n") if text else [], [history_text_row(save) for save in history])
        self.assertEqual([history_text(()), read_history("")], ["", ()])

    def test_rows_of_histories(self):
        first, second = "1.1 - 2 put a 5,6,7", "1.2 1.1 2 patch a 1 1 8,9"
        for text, at in (
            (first, None), (first + "\n" + second, None), (second, 0), (first + "\n" + first, 1), (first + "\n", 1),
            ("\n" + first, 0), (first + "\n\n" + second, 1), (first + "\n" + second + "\n2.1 1.3 1 drop a", 2),
            (first + "\n2.1 1.1 1 drop b\nx", 1), (first + "\n2.1 1.1 1 drop a b\n", 1), (first + "\n2.1 1.1 0 drop a", 1),
            (first + "\n2.1 1.1 17 drop a", 1), (first + "\n2.1 1.1 16 drop a", None), (first + "\n2.1 1.1 01 drop a", 1),
            ("1.1 - 1 put a 1,1,1,1,1,1,1", 0), ("1.1 - 2 put a 1,1,1,1,1,1,1", None), ("1.1  - 2 put a -", 0), ("1.1 - 2", 0),
            ("1.1 - - put a -", 0), ("- - 2 put a -", 0), ("1.1 1 2 put a -", 0), ("1.01 - 2 put a -", 0), ("1.1 - 2 drop a", 0),
            ("996.996 - 2 put a -", None), ("997.1 - 2 put a -", 0), ("1.2 - 1 put a -\n1.1 - 1 put a -", 1),
            ("1.2 - 1 put a -\n1.1 - 1 put a -\nx", 1), ("2.2 - 1 put a -\n1.1 - 1 put a - -", 1), ("1.1 -  put a -", 0),
            ("x\n" + first, 0), (first + " ", 0), ("1.1 - 2 put a -\n1.2 1.1 1 rename a a", 1), ("1.1 - 2 put a 5\n1.2 1.1 1 patch a 1 1 -", 1),
            ("1.1 - 2 put a 5\n1.2 1.1 1 patch a 1 0 -", None), ("1.1 1.1 2 put a 5", 0), ("1.1", 0), ("1.1 - 2 ", 0),
        ):
            if at is None:
                self.assertTrue(is_history(read_history(text)))
                self.assertEqual(history_text(read_history(text)), text)
            else:
                self.check_parsed(read_history, text, at)

    def test_bent_texts_tell_how_many_rows_are_right(self):
        broken = 0
        for _ in range(700):
            tree, (history, trees) = drawn_tree(DRAW), drawn_history(DRAW, 5)
            for text, function, again, judge in ((tree_text(tree), read_tree, tree_text, is_tree),
                                                 (history_text(history), read_history, history_text, is_history)):
                text = bent_text(DRAW, text)
                try:
                    found = function(text)
                except errors.ParseError as error:
                    broken += 1
                    self.check_first_rows(function, text.split("\n"), error.at)
                else:
                    self.assertEqual([again(found), judge(found)], [text, True])
        self.assertGreater(broken, 300)

    def check_first_rows(self, function, rows, at):
        """Just so many first rows are a text, and one row more is none."""
        self.assertLess(at, len(rows))
        function("\n".join(rows[:at]))
        with self.assertRaises(errors.ParseError) as caught:
            function("\n".join(rows[:at + 1]) if at or rows[0] else "\n")
        self.assertEqual(caught.exception.at, at)

    def test_long_histories(self):
        history = tuple((1, number, (1, number - 1) if number > 1 else None, ("put", "a", (number,)), 16) for number in range(1, 997))
        self.assertEqual(read_history(history_text(history)), history)
        self.assertEqual(len(history_text(STORY).split("\n")), 3)

    def test_wrong_arguments(self):
        wrong.check_wrong(self, tree_text, ({"a": ()},), (TREE,))
        wrong.check_wrong(self, history_text, (STORY,), (HISTORY,))


def history_text_row(save):
    base = "-" if save[2] is None else "{}.{}".format(*save[2])
    return "{}.{} {} {} {}".format(save[0], save[1], base, save[4], deed_text(save[3]))


if __name__ == "__main__":
    unittest.main()
