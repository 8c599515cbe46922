"""Views: what frames that agree tell, read once for all that is asked of it."""

from stillread.errors import UnknownName
from stillread.lots.columns import number_at, paper_at
from stillread.lots.spread import ROW, check_frames
from stillread.paper.checker import GONE, does_speak, is_rooted, said_above, said_own
from stillread.plain.histories import check_save_name
from stillread.read.constraints import (
    check_agreeing, outlines_in, said_in, sight_places, sight_rows, sights_in, sketch_in,
)
from stillread.read.marks import origin_in


class View:
    """The sights of the saves of frames that agree, and the outlines of all named saves. It never changes."""

    def __init__(self, frames):
        check_agreeing(frames)
        self.sights = sights_in(frames)
        # Of frames that agree each named save, a gap too, has an outline.
        self.outlines = outlines_in(sketch_in(self.sights))
        self.said = said_in(self.outlines)


def view_of(frames):
    """The view of frames, with the errors for them."""
    check_frames(frames)
    return View(frames)


def check_named(view, save):
    """UnknownName unless the save is named."""
    if save not in view.outlines:
        raise UnknownName(save)


def check_asked(view, save):
    """InvalidSave unless it is the name of a save, UnknownName unless it is named."""
    check_save_name(save)
    check_named(view, save)


def trail_steps(view, name):
    """The dict from each named save to those to which a trail for the name can step from it."""
    steps = {save: [] for save in view.outlines}
    for save, (n, base, mark, payloads) in view.sights.items():
        if base is not None and not does_speak(mark, name):
            steps[save].append(base)
            steps[base].append(save)
    return steps


def trails_ahead(view, save, name):
    """The dict from each save of the reach of a name to the one ahead of it on a trail, None for the first."""
    steps = trail_steps(view, name)
    ahead = {save: None}
    left = [save]
    while left:
        one = left.pop()
        for other in steps[one]:
            if other not in ahead:
                ahead[other] = one
                left.append(other)
    return ahead


def trail_to(ahead, last):
    """The trail to a save of the reach."""
    trail = [last]
    while ahead[trail[-1]] is not None:
        trail.append(ahead[trail[-1]])
    return tuple(trail[::-1])


def said_at(view, above, save, name):
    """What is said of a name at a save: the triple of what it tells, the word and the save above; None for nothing."""
    if save in view.sights:
        sight = view.sights[save]
        found = said_own(sight[2], name)
        if found is not None:
            return (found, "own", None)
        if is_rooted(sight, name):
            return (GONE, "root", None)
    for by in above.get(save, ()):
        found = said_above(view.sights, save, name, by)
        if found is not None:
            return (found, "above", by)
    return None


def saves_above(view):
    """The dict from the bases to the lists of the saves that have them."""
    above = {}
    for save, sight in view.sights.items():
        above.setdefault(sight[1], []).append(save)
    return above


def said_of(view, save, name):
    """What is told of a name at a save: the pair whether it is there and its length, and a paper; None if open."""
    above = saves_above(view)
    ahead = trails_ahead(view, save, name)
    for last in ahead:
        found = said_at(view, above, last, name)
        if found is not None:
            told, word, by = found
            return (told, (trail_to(ahead, last), word, by))
    return None


def source_of(view, save, name, at):
    """The pair (source, index) of the cell at a place of an entry that is told to be there, and longer."""
    entries = view.outlines[save].entries
    # No deed of the way speaks of other names: so these stand below as they are.
    return origin_in(entries[name], at) if name in entries else (("below", name), at)


def answer_by(view, question):
    """The pair of the answer to a question about a named save and of a paper for it, None if it is open."""
    word, save, name = question[:3]
    found = said_of(view, save, name)
    if found is None:
        return None
    (there, length), paper = found
    if word == "there":
        return (there, paper)
    if word == "length":
        return (length, paper)
    return cell_by(view, save, name, question[3]) if there and question[3] < length else (None, paper)


def cell_by(view, save, name, at):
    """The pair of the cell at a place of an entry that is told to be there and a paper, None if it is open."""
    (word, origin), index = source_of(view, save, name, at)
    if word == "below":
        return None
    sight = view.sights[origin]
    known, many, row = sight_places(sight, index % ROW), sight_rows(sight), index // ROW
    cell = number_at(known, many, row)
    if cell is None:
        return None
    return (cell, (bases_to(view, save, origin), paper_at(known, many, row)))


def bases_to(view, save, last):
    """The saves from one to another one, each the base of the one ahead."""
    row = [save]
    while row[-1] != last:
        row.append(view.sights[row[-1]][1])
    return tuple(row)
