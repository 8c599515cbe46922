"""Damaged texts: where their signs come from, which windows stay, and which frames are lost."""

from stillread.base.checks import is_ascending, is_number
from stillread.errors import InvalidDamage, InvalidOperation, TooMany
from stillread.text.acts import is_act, origins_behind, places_from, text_behind
from stillread.text.cells import CELL_DIGITS, MOST_SIGNS, WINDOW_CELLS, WINDOW_SIGNS, check_text, windows
from stillread.text.frames import BODY_CELLS, bodies_in, found_frames

MOST_ACTS = 60


def end_of(text, value):
    """The text behind a script, None if the value is no script for the text."""
    if not isinstance(value, tuple) or len(value) > MOST_ACTS:
        return None
    for act in value:
        if not is_act(act, text):
            return None
        text = text_behind(text, act)
    return text


def is_script(text, value):
    """Whether the value is a script for the text."""
    check_text(text)
    return end_of(text, value) is not None


def damaged(text, script):
    """The text to which the script leads."""
    check_text(text)
    end = end_of(text, script)
    if end is None:
        raise InvalidDamage("no script for this text")
    return end


def origins(text, script):
    """The origins of all signs of the damaged text."""
    damaged(text, script)
    signs = places_from(0, 0, len(text))
    joined = 0
    for act in script:
        joined += 1 if act[0] == "join" else 0
        signs = origins_behind(signs, act, joined)
    return signs


def stretches(text, script):
    """The stretches (begin, end, source, place) of the damaged text."""
    signs = origins(text, script)
    found = []
    begin = 0
    for end in range(1, len(signs) + 1):
        if end == len(signs) or not does_follow(signs[end], signs[end - 1]):
            if signs[begin] is not None:
                found.append((begin, end, signs[begin][0], signs[begin][1]))
            begin = end
    return tuple(found)


def does_follow(sign, ahead):
    """Whether an origin is one place behind that of the sign ahead."""
    return ahead is not None and sign == (ahead[0], ahead[1] + 1)


def is_whole(signs):
    """Whether these origins are those of neighbours of one source, in sequence."""
    return signs[0] is not None and signs == places_from(signs[0][0], signs[0][1], len(signs))


def window_signs(text, script):
    """The dict from the places of all windows of the damaged text to the origins of their signs."""
    signs = origins(text, script)
    return {place: signs[place:place + WINDOW_SIGNS] for place, cells in windows(damaged(text, script))}


def kept_windows(text, script):
    """The triples (place, source, place there) of all kept windows."""
    rows = window_signs(text, script)
    return tuple([(place, row[0][0], row[0][1]) for place, row in rows.items() if is_whole(row)])


def fresh_windows(text, script):
    """The places of all fresh windows."""
    rows = window_signs(text, script)
    return tuple([place for place, row in rows.items() if not is_whole(row)])


def sources(text, script):
    """The source texts of a checked script, by their numbers."""
    return [text] + [act[1] for act in script if act[0] == "join"]


def is_fair(text, script):
    """Whether each frame that is found in the damaged text is found in some source."""
    end = damaged(text, script)
    bodies = {}
    for source in sources(text, script):
        for body in bodies_in(source):
            bodies[body] = True
    return all([body in bodies for body in bodies_in(end)])


def is_surely_fair(text, script):
    """Whether each fresh window is a splice of two frames, or a bent frame."""
    rows = window_signs(text, script)
    frames = {}
    for number, source in enumerate(sources(text, script)):
        for place, body in found_frames(source):
            frames[(number, place)] = True
    return all([is_whole(row) or is_splice(row, frames) or is_bent(row, frames) for row in rows.values()])


def is_splice(row, frames):
    """Whether the origins of a window begin as those of a frame, and go on as those of one."""
    first, last = row[0], row[-1]
    if first not in frames or last is None:
        return False
    behind = (last[0], last[1] - WINDOW_SIGNS + 1)
    if behind not in frames:
        return False
    head = places_from(first[0], first[1], WINDOW_SIGNS)
    tail = places_from(behind[0], behind[1], WINDOW_SIGNS)
    return any([row[:at] == head[:at] and row[at:] == tail[at:] for at in range(1, WINDOW_SIGNS)])


def is_bent(row, frames):
    """Whether the origins of a window are those of a frame, but for signs of at most 20 cells."""
    if row[0] not in frames:
        return False
    frame = places_from(row[0][0], row[0][1], WINDOW_SIGNS)
    bent = 0
    for cell in range(WINDOW_CELLS):
        begin = 1 + CELL_DIGITS * cell
        if row[begin:begin + CELL_DIGITS] != frame[begin:begin + CELL_DIGITS]:
            bent += 1
    return bent <= BODY_CELLS and row[-1] == frame[-1]


def frame_places(text):
    """The ascending list of the places at which frames are found."""
    return [place for place, body in found_frames(text)]


def check_places(places, known):
    """InvalidOperation unless it is an ascending tuple of some of the known places."""
    found = {place: True for place in known}
    if not isinstance(places, tuple) or not all([is_number(place, 0, MOST_SIGNS) for place in places]):
        raise InvalidOperation("no tuple of places")
    if not is_ascending(places) or not all([place in found for place in places]):
        raise InvalidOperation("no ascending tuple of places at which frames are found")


def frame_runs(places, known):
    """The runs of some of the known places: pairs of their first and their last one."""
    told = {place: True for place in places}
    runs = []
    is_inside = False
    for place in known:
        if place not in told:
            is_inside = False
        elif is_inside:
            runs[-1] = (runs[-1][0], place)
        else:
            runs.append((place, place))
            is_inside = True
    return runs


def checked_runs(text, places):
    """The runs of the places in a text, which are at most 60; the errors of these arguments."""
    known = frame_places(text)
    check_places(places, known)
    runs = frame_runs(places, known)
    if len(runs) > MOST_ACTS:
        raise TooMany(MOST_ACTS)
    return runs


def spoiling(text, places):
    """A script with as few acts as can be that spoils just the frames at these places."""
    runs = checked_runs(text, places)
    # The first # and the last ; stay: no window can go over these two side by side.
    # From the last run to the first one, no place ahead is shifted.
    return tuple([("out", first + 1, last + WINDOW_SIGNS - 1) for first, last in reversed(runs)])


def is_spoiling(text, places, value):
    """Whether the value is such a script."""
    runs = checked_runs(text, places)
    end = end_of(text, value)
    if end is None or len(value) != len(runs) or not all([act[0] in ("out", "wrong") for act in value]):
        return False
    rows = window_signs(text, value)
    found = [rows[place] for place in frame_places(end)]
    told = {place: True for place in places}
    others = [place for place in frame_places(text) if place not in told]
    return all([is_whole(row) for row in found]) and [row[0][1] for row in found] == others
