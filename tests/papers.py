"""Papers as the tests find and bend them, and a plain judge of them."""

from stillread.base.polys import through, value_at
from tests import wrong
from tests.bodies import KINDS, plain_k, plain_name
from tests.frames import plain_column, plain_sights


def told_deed(sight):
    """The word of a deed, its names, and at, out, length and the length ahead."""
    kind, f, g, at, out, length, ahead = sight[2]
    word = KINDS[kind]
    other = plain_name(at, out) if word == "rename" else None
    return word, plain_name(f, g), other, at, out, length, ahead


def plain_speaks(sight, name):
    word, own, other = told_deed(sight)[:3]
    return name in (own, other)


def plain_named(sights):
    return sorted(set(sights) | {sight[1] for sight in sights.values() if sight[1] is not None})


def plain_said(sights, save, name, word, by):
    """What a word says of a name at a save: "gone", a length, or `None` for nothing."""
    if word == "above":
        if by not in sights or sights[by][1] != save:
            return None
        deed, own, other, at, out, length, ahead = told_deed(sights[by])
        if deed != "put" and own == name:
            return ahead
        return "gone" if other == name else None
    if by is not None or save not in sights:
        return None
    deed, own, other, at, out, length, ahead = told_deed(sights[save])
    if word == "root":
        return "gone" if sights[save][1] is None and name not in (own, other) else None
    if word != "own" or name not in (own, other):
        return None
    if deed == "drop" or (deed == "rename" and name == own):
        return "gone"
    return {"put": length, "patch": ahead - out + length, "rename": ahead}[deed]


def plain_trail(sights, name, trail):
    """Whether a tuple of names of saves is a trail."""
    if not trail or not set(trail) <= set(plain_named(sights)):
        return False
    for one, other in zip(trail, trail[1:]):
        steps = [save for save, base in ((one, other), (other, one)) if save in sights and sights[save][1] == base]
        if not any(not plain_speaks(sights[save], name) for save in steps):
            return False
    return True


def plain_takes(frames, question, answer, paper):
    """Whether the paper, a tuple of values of the right kinds, is one, by the words of stage 16."""
    sights = plain_sights(frames)
    word, save, name = question[:3]
    if word == "cell" and answer is not None:
        return wrong.is_cell(answer) and len(paper) == 2 and plain_cell_paper(sights, question, answer, *paper)
    if len(paper) != 3 or not plain_trail(sights, name, paper[0]) or paper[0][0] != save:
        return False
    said = plain_said(sights, paper[0][-1], name, paper[1], paper[2])
    if said is None:
        return False
    if word == "there":
        return answer is (said != "gone")
    if word == "length":
        return answer is None if said == "gone" else wrong.is_int(answer, said, said)
    return said == "gone" or said <= question[3]


def plain_place(sights, row, name, place):
    """The save, the row and the column of a new cell, led along a row of saves; `None` if it leads to none."""
    for save in row[:-1]:
        deed, own, other, at, out, length, ahead = told_deed(sights[save])
        if name not in (own, other):
            continue
        if name == other:
            name = own
        elif deed == "patch" and place >= at + length:
            place = place - length + out
        elif deed != "patch" or place >= at:
            return None
    deed, own, other, at, out, length, ahead = told_deed(sights[row[-1]])
    index = place - at if deed == "patch" else place
    if deed not in ("put", "patch") or own != name or not 0 <= index < length:
        return None
    return row[-1], index // 6, index % 6


def plain_cell_paper(sights, question, answer, row, told):
    if not row or row[0] != question[1] or not set(row) <= set(sights):
        return False
    if any(sights[one][1] != other for one, other in zip(row, row[1:])):
        return False
    found = plain_place(sights, row, question[2], question[3])
    if found is None:
        return False
    save, line, column = found
    known, k = plain_column(sights[save], column), plain_k(sights[save][2][5])
    if told == ("own",):
        return known.get(line) == answer
    if len(told) != 3 or told[0] != "poly" or len(told[1]) != k or list(told[1]) != sorted(set(told[1])):
        return False
    word, places, poly = told
    if not set(places) <= set(known) or not wrong.is_poly(poly) or len(poly) > k:
        return False
    return all(value_at(poly, place) == known[place] for place in places) and value_at(poly, line) == answer


def trails_from(sights, save, name, most=60):
    """Some trails for a name from a save, each save once."""
    named, trails = plain_named(sights), [(save,)]
    for trail in trails:
        for other in named:
            if len(trails) < most and other not in trail and plain_trail(sights, name, trail[-1:] + (other,)):
                trails.append(trail + (other,))
    return trails


def papers_for(frames, question):
    """All pairs of an answer and a paper that are found by trails and rows, at least one if the question is told."""
    sights = plain_sights(frames)
    word, save, name = question[:3]
    found = []
    for trail in trails_from(sights, save, name):
        for kind, by in [("own", None), ("root", None)] + [("above", one) for one in sights]:
            said = plain_said(sights, trail[-1], name, kind, by)
            if said is None:
                continue
            length = None if said == "gone" else said
            if word != "cell":
                found.append((said != "gone" if word == "there" else length, (trail, kind, by)))
            elif length is None or length <= question[3]:
                found.append((None, (trail, kind, by)))
    return found + (cell_papers(sights, question) if word == "cell" else [])


def cell_papers(sights, question):
    """The papers for a cell that rows of saves lead to."""
    row, found = (), []
    save = question[1]
    while save in sights and save not in row:
        row = row + (save,)
        save = sights[save][1]
        place = plain_place(sights, row, question[2], question[3])
        if place is not None:
            last, line, column = place
            known, k = plain_column(sights[last], column), plain_k(sights[last][2][5])
            if line in known:
                found.append((known[line], (row, ("own",))))
            for places in [sorted(known)[:k], sorted(known)[-k:]]:
                if len(places) == k:
                    poly = through(tuple((at, known[at]) for at in places))
                    found.append((value_at(poly, line), (row, ("poly", tuple(places), poly))))
    return found
