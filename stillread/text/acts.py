"""Acts that damage a text, and what they make of it."""

from stillread.base.checks import is_number
from stillread.text.cells import MOST_SIGNS, is_text


def is_stretch(begin, end, text):
    """Whether this is a stretch of at least one sign of the text."""
    return is_number(begin, 0, len(text) - 1) and is_number(end, begin + 1, len(text))


def is_out(act, text):
    """Whether the act takes a stretch out of the text."""
    return len(act) == 3 and is_stretch(act[1], act[2], text)


def is_copy(act, text):
    """Whether the act puts a stretch of the text in once more."""
    if len(act) != 4 or not is_stretch(act[1], act[2], text):
        return False
    return is_number(act[3], 0, len(text)) and len(text) + act[2] - act[1] <= MOST_SIGNS


def is_move(act, text):
    """Whether the act puts a stretch of the text elsewhere into what is left."""
    if len(act) != 4 or not is_stretch(act[1], act[2], text):
        return False
    return is_number(act[3], 0, len(text) - (act[2] - act[1]))


def is_put(act, text):
    """Whether the act puts signs into the text."""
    if len(act) != 3 or not is_number(act[1], 0, len(text)):
        return False
    return is_text(act[2]) and act[2] != "" and len(text) + len(act[2]) <= MOST_SIGNS


def is_wrong(act, text):
    """Whether the act makes another sign of one of the text."""
    if len(act) != 3 or not is_number(act[1], 0, len(text) - 1):
        return False
    return is_text(act[2]) and len(act[2]) == 1 and act[2] != text[act[1]]


def is_join(act, text):
    """Whether the act puts a text behind the text."""
    return len(act) == 2 and is_text(act[1]) and len(text) + len(act[1]) <= MOST_SIGNS


JUDGES = {"out": is_out, "copy": is_copy, "move": is_move, "put": is_put, "wrong": is_wrong, "join": is_join}


def is_act(value, text):
    """Whether the value is an act that is right for the text."""
    if not isinstance(value, tuple) or not value or not isinstance(value[0], str) or value[0] not in JUDGES:
        return False
    judge = JUDGES[value[0]]
    return judge(value, text)


def changed(row, act, fresh):
    """What the act makes of a row: of the signs of a text, or of what is told of each sign.

    `fresh` stands for the signs that the act brings, `row[:0]` if it brings none.
    """
    word, begin = act[0], act[1]
    if word == "join":
        return row + fresh
    if word == "put":
        return row[:begin] + fresh + row[begin:]
    if word == "wrong":
        return row[:begin] + fresh + row[begin + 1:]
    end = act[2]
    left = row if word == "copy" else row[:begin] + row[end:]
    if word == "out":
        return left
    return left[:act[3]] + row[begin:end] + left[act[3]:]


def brought(act):
    """The signs that an act brings from outside of the text."""
    return act[-1] if act[0] in ("put", "wrong", "join") else ""


def text_behind(text, act):
    """The text behind an act."""
    return changed(text, act, brought(act))


def origins_behind(signs, act, source):
    """The origins of all signs behind an act; the source is the number of a text that it joins."""
    if act[0] == "join":
        return changed(signs, act, places_from(source, 0, len(act[1])))
    return changed(signs, act, (None,) * len(brought(act)))


def places_from(source, place, many):
    """The origins of so many signs of a source, from a place on."""
    return tuple([(source, at) for at in range(place, place + many)])
