"""A shell: lines that save, go about, damage and mend a text, and ask what it tells."""

from stillread.errors import InvalidDamage, InvalidNumber, InvalidOperation, Refused, StillError, TooMany, UnknownName
from stillread.keep.archive import Archive, standing_frames
from stillread.mend.mender import mended
from stillread.plain.histories import MOST_FRAMES, rows_for
from stillread.read.told import Reading
from stillread.text.damage import damaged
from stillread.use.texts import answer_text, deed_in, number_in, question_in, save_in, save_word, tree_rows, words_of

MOST_LINE = 4000
MOST_LINES = 200
MOST_MORE = 15
# For each act of stage 5 that is a line how many words it has behind the first one.
ACT_WORDS = {"out": 2, "copy": 3, "move": 3, "wrong": 2}
# The words of clashes: each reason to refuse that begins otherwise is no clash.
CLASHES = ("ring", "deed", "gap", "marks", "index", "poly")


def is_line(value):
    """Whether the value is a string of at most 4000 printable characters."""
    return isinstance(value, str) and len(value) <= MOST_LINE and value.isascii() and value.isprintable()


def check_line(line):
    """InvalidOperation unless it is a line."""
    if not is_line(line):
        raise InvalidOperation("no string of at most 4000 printable characters")


def reason_text(reason):
    """The answer to what is refused for a reason."""
    if reason[0] in CLASHES:
        return "clash"
    return " ".join(["refused"] + [str(member) for member in reason])


def act_in(words):
    """The act that the words of a line tell, InvalidDamage if they are too few or too many."""
    if len(words) - 1 != ACT_WORDS[words[0]]:
        raise InvalidDamage("no act with so many words")
    if words[0] == "wrong":
        return (words[0], line_number(words[1]), words[2])
    return tuple(words[:1] + [line_number(word) for word in words[1:]])


def line_number(word):
    """The integer whose word this is, InvalidOperation if there is none."""
    number = number_in(word)
    if number is None:
        raise InvalidOperation("no word of an integer")
    return number


def line_save(word):
    """The name of a save whose word this is, InvalidOperation if there is none."""
    save = save_in(word)
    if save is None:
        raise InvalidOperation("no word of the name of a save")
    return save


class Shell:
    """A text of one archive, with its writer, or with none. It changes."""

    def __init__(self, archive, hand):
        self._writer = Archive(archive, hand)
        self._archive = archive
        self._text = ""
        self._place = None
        self._more = 0

    @property
    def text(self):
        """The text."""
        return self._text

    @property
    def place(self):
        """The save on which the next one is built, or None."""
        return self._place

    def run(self, line):
        """Does a line, and returns its answer."""
        check_line(line)
        return self._answered(line)

    def run_all(self, lines):
        """The answers to some lines, done one behind the other."""
        if not isinstance(lines, tuple) or len(lines) > MOST_LINES or not all([is_line(line) for line in lines]):
            raise InvalidOperation("no tuple of at most 200 lines")
        return tuple([self._answered(line) for line in lines])

    def _answered(self, line):
        """The answer to a line, also to one that cannot be done."""
        try:
            return self._done(words_of(line))
        except Refused as refused:
            return reason_text(refused.reason)
        except UnknownName as unknown:
            return "unknown " + save_word(unknown.wanted)
        except TooMany as many:
            return f"too many {many.most}"
        except (StillError, InvalidNumber):
            return "wrong"

    def _done(self, words):
        """Does what the words of a line tell."""
        deed, question = deed_in(words), question_in(words)
        if deed is not None:
            return self._save(deed)
        if question is not None:
            return self._ask(question)
        if words[0] in ACT_WORDS:
            return self._change(damaged(self._text, (act_in(words),)))
        if words == ["mend"]:
            return self._change(mended(self._text))
        if words == ["saves"]:
            return self._named()
        if len(words) != 2:
            raise InvalidOperation("no line")
        return self._set(words[0], words[1])

    def _set(self, word, told):
        """Does a line of two words."""
        if word == "go":
            return self._go(None if told == "-" else line_save(told))
        if word == "more":
            return self._tell_more(line_number(told))
        if word == "hand":
            return self._continue(line_number(told))
        if word == "tree":
            return self._tree(line_save(told))
        raise InvalidOperation("no line")

    def _save(self, deed):
        """Makes a save on the place."""
        if self._writer is None:
            return "no hand"
        more = min(self._more, MOST_FRAMES - rows_for(deed))
        self._place = self._writer.add(deed, base=self._place, more=more)
        self._text = self._writer.text
        return "saved " + save_word(self._place)

    def _go(self, save):
        """Goes to a save that the writer knows, or to none."""
        if save is not None and (self._writer is None or save not in self._writer):
            raise UnknownName(save)
        self._place = save
        return "at " + save_word(save)

    def _tell_more(self, more):
        """Tells how many further frames saves have."""
        if more > MOST_MORE:
            raise InvalidNumber(more)
        self._more = more
        return f"more {more}"

    def _continue(self, hand):
        """Goes on from the text as a hand."""
        self._writer = Archive.continued(self._text, self._archive, hand)
        self._place = None
        return f"hand {hand}"

    def _change(self, text):
        """Takes another text, of which nobody is the writer."""
        if text != self._text:
            self._writer = None
        self._text = text
        return f"{len(standing_frames(text, self._archive))} frames"

    def _reading(self):
        """What the frames of the archive tell that stand in the text."""
        return Reading(standing_frames(self._text, self._archive))

    def _ask(self, question):
        """The text of the answer to a question, or that it is open."""
        found = self._reading().answer(question)
        return "open" if found is None else answer_text(question, found[0])

    def _tree(self, save):
        """The text of the version of a save, or that it is open."""
        reading = self._reading()
        if not reading.is_whole(save):
            return "open"
        rows = tree_rows(reading.known_entries(save))
        return " ; ".join(rows) if rows else "empty"

    def _named(self):
        """The names of all named saves."""
        names = [save_word(save) for save in self._reading().saves]
        return " ".join(names) if names else "none"

    def __str__(self):
        return f"shell of archive {self._archive} with {len(self._text)} signs"
