"""Papers for what frames tell, clashes of frames, and histories with unlike answers: all judged."""

from stillread.base.checks import is_number
from stillread.base.names import is_cell, is_name
from stillread.errors import InvalidQuestion, UnknownName
from stillread.lots.columns import are_known, off_place
from stillread.lots.gather import is_paper_at
from stillread.lots.spread import ROW, check_frames, is_body, marks_in, save_bodies, save_in
from stillread.plain.histories import check_history, is_history, is_save_name, lengths_ahead, version_in
from stillread.read.constraints import is_sketch_clash, sight_places, sight_rows, sights_in, sketch_in
from stillread.read.marks import length_behind, mark_length

MOST_PLACE = 995
# What is said of a name whose entry is not there.
GONE = (False, None)


def is_question(value):
    """Whether the value is a question."""
    if not isinstance(value, tuple) or len(value) < 3 or not is_save_name(value[1]) or not is_name(value[2]):
        return False
    if len(value) == 4:
        return value[0] == "cell" and is_number(value[3], 0, MOST_PLACE)
    return len(value) == 3 and value[0] in ("there", "length")


def check_question(question):
    """InvalidQuestion unless it is a question."""
    if not is_question(question):
        raise InvalidQuestion("no question")


def named_in(told):
    """The dict of True from all named saves, those with these sights and their bases."""
    named = {save: True for save in told}
    for n, base, mark, payloads in told.values():
        if base is not None:
            named[base] = True
    return named


def asked_sights(frames, question):
    """The sights of the frames, with the errors for them and for a question."""
    check_frames(frames)
    check_question(question)
    told = sights_in(frames)
    if question[1] not in named_in(told):
        raise UnknownName(question[1])
    return told


def takes(frames, question, answer, paper):
    """Whether the paper is one for this answer."""
    told = asked_sights(frames, question)
    if not isinstance(paper, tuple):
        return False
    if question[0] == "cell" and answer is not None:
        return is_cell(answer) and is_cell_paper(told, question, answer, paper)
    found = said_at_end(told, question[1], question[2], paper)
    return found is not None and does_answer(question, answer, found)


def does_answer(question, answer, told):
    """Whether the answer, None for a cell, is the one by what is said of the name."""
    there, length = told
    if question[0] == "there":
        return isinstance(answer, bool) and answer == there
    if question[0] == "length" and there:
        return is_number(answer, length, length)
    return answer is None and (not there or (question[0] == "cell" and length <= question[3]))


def said_at_end(told, save, name, paper):
    """What a paper (trail, word, by) tells of the name: the pair whether it is there, and its length.

    None if the paper is no such one for this save.
    """
    if len(paper) != 3:
        return None
    trail, word, by = paper
    if not is_trail(told, name, trail) or trail[0] != save:
        return None
    last = trail[-1]
    if word == "above":
        return said_above(told, last, name, by) if is_save_name(by) else None
    if by is not None or last not in told:
        return None
    if word == "own":
        return said_own(told[last][2], name)
    return GONE if word == "root" and is_rooted(told[last], name) else None


def does_speak(mark, name):
    """Whether the deed of a mark speaks of the name."""
    return mark[1] == name or (mark[0] == "rename" and mark[2] == name)


def said_own(mark, name):
    """What the mark of a save says of the name behind it, None if its deed does not speak of it."""
    if not does_speak(mark, name):
        return None
    if mark[0] == "drop" or (mark[0] == "rename" and mark[1] == name):
        return GONE
    return (True, length_behind(mark))


def said_above(told, save, name, by):
    """What a save that is there says of the name at its base, None if nothing or if this is not its base."""
    if by not in told or told[by][1] != save:
        return None
    mark = told[by][2]
    if mark[0] == "put" or not does_speak(mark, name):
        return None
    return (True, mark[-1]) if mark[1] == name else GONE


def is_rooted(sight, name):
    """Whether a save with this sight has no base, and its deed does not speak of the name."""
    return sight[1] is None and not does_speak(sight[2], name)


def is_trail(told, name, value):
    """Whether the value is a trail for the name, its first save being named."""
    if not isinstance(value, tuple) or not value or not all([is_save_name(save) for save in value]):
        return False
    # Each further save is there, or the base of one that is: so it is named, too.
    return all([is_silent(told, name, one, other) or is_silent(told, name, other, one)
                for one, other in zip(value, value[1:])])


def is_silent(told, name, save, base):
    """Whether a save is there, has this base, and its deed does not speak of the name."""
    return save in told and told[save][1] == base and not does_speak(told[save][2], name)


def is_cell_paper(told, question, answer, paper):
    """Whether a tuple is a paper (row, told) for a cell."""
    if len(paper) != 2 or not is_base_row(told, question[1], paper[0]) or not isinstance(paper[1], tuple):
        return False
    row, kind = paper
    name, place = led_along(told, row[:-1], question[2], question[3])
    sight = told[row[-1]]
    index = new_index(sight[2], name, place)
    if index is None:
        return False
    known = sight_places(sight, index % ROW)
    return is_paper_at(known, sight_rows(sight), index // ROW, answer, kind)


def is_base_row(told, save, value):
    """Whether the value is a tuple of saves that are there, from this one on, each the base of the one ahead."""
    if not isinstance(value, tuple) or not value or not all([is_save_name(one) and one in told for one in value]):
        return False
    return value[0] == save and all([told[one][1] == other for one, other in zip(value, value[1:])])


def led_along(told, row, name, place):
    """The pair of the name and the place of a cell behind the steps of a row, (None, None) if it comes from one."""
    for save in row:
        name, place = led_below(told[save][2], name, place)
    return (name, place)


def led_below(mark, name, place):
    """The pair of the name and the place of a cell at the base of a save with this mark.

    Of the name None, when the cell comes from a save ahead, no deed speaks.
    """
    if not does_speak(mark, name):
        return (name, place)
    if mark[0] == "rename" and mark[2] == name:
        return (mark[1], place)
    if mark[0] == "patch" and place < mark[2]:
        return (name, place)
    if mark[0] == "patch" and place >= mark[2] + mark[4]:
        return (name, place - mark[4] + mark[3])
    return (None, None)


def new_index(mark, name, place):
    """The index of the new cell that a put or patch of the name has at a place, None if there is none."""
    if mark[0] not in ("put", "patch") or mark[1] != name:
        return None
    index = place if mark[0] == "put" else place - mark[2]
    return index if 0 <= index < mark_length(mark) else None


def is_clash(frames, value):
    """Whether the value is a clash of the frames."""
    check_frames(frames)
    if not isinstance(value, tuple) or not value:
        return False
    if value[0] in ("marks", "index"):
        return len(value) == 3 and is_twin_clash(frames, value[0], value[1], value[2])
    told = sights_in(frames)
    if value[0] == "poly":
        return len(value) == 4 and is_poly_clash(told, value[1], value[2], value[3])
    return is_sketch_clash(sketch_in(told), value)


def is_twin_clash(frames, word, one, other):
    """Whether these are two of the frames, the lesser one first, of one save, that clash as the word says."""
    if not is_body(one) or not is_body(other) or one not in frames or other not in frames:
        return False
    if one >= other or save_in(one) != save_in(other):
        return False
    if word == "marks":
        return marks_in(one) != marks_in(other)
    return marks_in(one) == marks_in(other) and one[3] == other[3]


def is_poly_clash(told, save, column, places):
    """Whether a column of a save has k + 1 known places that are on no poly of degree below k."""
    if not is_save_name(save) or save not in told or not is_number(column, 0, ROW - 1):
        return False
    known, many = sight_places(told[save], column), sight_rows(told[save])
    if not are_known(known, many + 1, places):
        return False
    return off_place({place: known[place] for place in places}, many) is not None


def has_frames(history, frames):
    """Whether each of the frames is a frame of a save of the history."""
    check_history(history)
    check_frames(frames)
    return are_had(history, frames)


def are_had(history, frames):
    """The same for a checked history and checked frames."""
    wanted = {save_in(body): True for body in frames}
    had = {}
    for save, ahead in zip(history, lengths_ahead(history)):
        if save[:2] in wanted:
            for body in save_bodies(frames[0][0], save, ahead):
                had[body] = True
    return all([body in had for body in frames])


def answer_in(history, question):
    """The answer to a question in a history."""
    check_history(history)
    check_question(question)
    return answer_of_history(history, question)


def answer_of_history(history, question):
    """The answer in a checked history, UnknownName unless it has the save."""
    tree = version_in(history, question[1])
    name = question[2]
    if question[0] == "there":
        return name in tree
    if question[0] == "length":
        return len(tree[name]) if name in tree else None
    cells = tree.get(name, ())
    return cells[question[3]] if question[3] < len(cells) else None


def is_unlike(frames, question, value):
    """Whether the value is a pair of histories that have the frames, and unlike answers."""
    asked_sights(frames, question)
    if not isinstance(value, tuple) or len(value) != 2:
        return False
    if not all([is_history(history) and are_had(history, frames) for history in value]):
        return False
    return answer_of_history(value[0], question) != answer_of_history(value[1], question)
