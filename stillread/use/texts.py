"""Texts of deeds, questions, trees and histories: just one for each, and read back from it."""

from stillread.base.checks import is_number
from stillread.base.names import MAX_CELL, is_name
from stillread.errors import InvalidOperation, ParseError
from stillread.paper.checker import MOST_PLACE, check_question, is_question
from stillread.plain.histories import MOST_FRAMES, MOST_HAND, check_history, history_fault
from stillread.plain.trees import MOST_LENGTH, MOST_NEW, check_deed, check_tree, is_deed

LONGEST_WORD = 60


def cells_word(cells):
    """The word of cells."""
    return ",".join([str(cell) for cell in cells]) if cells else "-"


def save_word(save):
    """The word of the name of a save, or of None."""
    return "-" if save is None else f"{save[0]}.{save[1]}"


def deed_words(deed):
    """The words of a checked deed, with a blank between each two."""
    parts = [str(part) for part in deed]
    if deed[0] in ("put", "patch"):
        parts[-1] = cells_word(deed[-1])
    return " ".join(parts)


def deed_text(deed):
    """The text of a deed."""
    check_deed(deed)
    return deed_words(deed)


def question_text(question):
    """The text of a question."""
    check_question(question)
    return " ".join([question[0], save_word(question[1])] + [str(part) for part in question[2:]])


def tree_rows(tree):
    """The list of the rows of a checked tree."""
    return [f"{name} {cells_word(tree[name])}" for name in sorted(tree)]


def tree_text(tree):
    """The text of a tree."""
    check_tree(tree)
    return "\n".join(tree_rows(tree))


def history_text(history):
    """The text of a history."""
    check_history(history)
    return "\n".join([save_text(save) for save in history])


def save_text(save):
    """The row of a save."""
    return f"{save_word(save[:2])} {save_word(save[2])} {save[4]} {deed_words(save[3])}"


def answer_text(question, answer):
    """The text of an answer that a question can have."""
    check_question(question)
    if question[0] == "there":
        if not isinstance(answer, bool):
            raise InvalidOperation("neither True nor False")
        return "yes" if answer else "no"
    if answer is None:
        return "none"
    if not is_number(answer, 0, MAX_CELL):
        raise InvalidOperation("neither None nor an integer from 0 to 996")
    return str(answer)


def words_of(value):
    """The list of the words of a value, one empty word if it has none."""
    words = value.split(" ") if isinstance(value, str) else []
    return words if words and "" not in words else [""]


def rows_of(value):
    """The list of the rows of a value, ParseError if it is no string."""
    if not isinstance(value, str):
        raise ParseError(0)
    return value.split("\n") if value else []


def number_in(word):
    """The integer whose word this is, None if there is none of at most sixty digits."""
    if not word.isdigit() or not word.isascii() or len(word) > LONGEST_WORD:
        return None
    return int(word) if word == "0" or word[0] != "0" else None


def number_within(word, least, most):
    """The integer within the bounds whose word this is, None if there is none."""
    number = number_in(word)
    return number if is_number(number, least, most) else None


def length_in(word):
    """The integer from 0 to 996 whose word this is, None if there is none."""
    return number_within(word, 0, MOST_LENGTH)


def place_in(word):
    """The integer from 0 to 995 whose word this is, None if there is none."""
    return number_within(word, 0, MOST_PLACE)


def name_in(word):
    """The name that the word is, None if it is none."""
    return word if is_name(word) else None


def save_in(word):
    """The name of a save whose word this is, None if there is none."""
    numbers = [number_within(part, 1, MOST_HAND) for part in word.split(".")]
    return tuple(numbers) if len(numbers) == 2 and None not in numbers else None


def cells_in(word):
    """The cells whose word this is, None if there are none."""
    if word == "-":
        return ()
    cells = [number_within(part, 0, MAX_CELL) for part in word.split(",")]
    return None if None in cells else tuple(cells)


def new_in(word):
    """The at most 48 cells whose word this is, None if there are none."""
    cells = cells_in(word)
    return None if cells is None or len(cells) > MOST_NEW else cells


# For each first word of a text what reads the further ones.
DEED_FORMS = {
    "put": (name_in, new_in),
    "patch": (name_in, length_in, length_in, new_in),
    "drop": (name_in,),
    "rename": (name_in, name_in),
}
QUESTION_FORMS = {
    "there": (save_in, name_in),
    "length": (save_in, name_in),
    "cell": (save_in, name_in, place_in),
}


def parts_of(words, readers):
    """The tuple of the first word and what the readers tell of the further ones, up to the first wrong one."""
    if readers is None:
        return ()
    parts = words[:1]
    for word, reader in zip(words[1:], readers):
        part = reader(word)
        if part is None:
            break
        parts.append(part)
    # The names of a rename are unlike, so the second one alone is wrong.
    if parts[0] == "rename" and len(parts) == 3 and parts[1] == parts[2]:
        parts.pop()
    return tuple(parts)


def deed_parts(words):
    """The parts of a deed that the first words tell."""
    return parts_of(words, DEED_FORMS.get(words[0]))


def read_deed(value):
    """The deed with a text."""
    words = words_of(value)
    deed = deed_in(words)
    if deed is None:
        raise ParseError(len(deed_parts(words)))
    return deed


def deed_in(words):
    """The deed with these words, None if there is none."""
    parts = deed_parts(words)
    return parts if is_deed(parts) and len(parts) == len(words) else None


def question_parts(words):
    """The parts of a question that the first words tell."""
    return parts_of(words, QUESTION_FORMS.get(words[0]))


def read_question(value):
    """The question with a text."""
    words = words_of(value)
    question = question_in(words)
    if question is None:
        raise ParseError(len(question_parts(words)))
    return question


def question_in(words):
    """The question with these words, None if there is none."""
    parts = question_parts(words)
    return parts if is_question(parts) and len(parts) == len(words) else None


def read_tree(value):
    """The tree with a text."""
    tree = {}
    last = ""
    for at, row in enumerate(rows_of(value)):
        words = words_of(row)
        cells = cells_in(words[-1])
        if len(words) != 2 or not is_name(words[0]) or cells is None or len(cells) > MOST_LENGTH or words[0] <= last:
            raise ParseError(at)
        last = words[0]
        tree[last] = cells
    return tree


def read_history(value):
    """The history with a text."""
    rows = rows_of(value)
    saves = []
    for row in rows:
        save = save_row(words_of(row))
        if save is None:
            break
        saves.append(save)
    fault = history_fault(tuple(saves))
    right = len(saves) if fault is None else fault[0]
    if right < len(rows):
        raise ParseError(right)
    return tuple(saves)


def save_row(words):
    """The save of the form that the words of a row tell, None if they tell none."""
    if len(words) < 4:
        return None
    save, base, deed = save_in(words[0]), save_in(words[1]), deed_in(words[3:])
    n = number_within(words[2], 1, MOST_FRAMES)
    if save is None or n is None or deed is None or (base is None and words[1] != "-"):
        return None
    return save + (base, deed, n)
