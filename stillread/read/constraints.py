"""What saves say of the gaps below them, and the clashes of sketches and of frames."""

from stillread.base.names import is_name
from stillread.errors import Refused, UnknownName
from stillread.lots.columns import column_places, off_place
from stillread.lots.gather import lots_in
from stillread.lots.spread import ROW, base_in, check_frames, mark_in, marks_in
from stillread.plain.histories import check_save_name, is_save_name, row_count
from stillread.plain.sequences import hand_pairs, is_ring, ring_in, sequence_of
from stillread.plain.trees import is_tree
from stillread.read.marks import check_sketch, mark_length
from stillread.read.pieces import Outline, does_fit_asks, gaps_in, outline_along, sound_way


def names_in(sketch):
    """The ascending list of all known saves and gaps."""
    return sorted(list(sketch) + gaps_in(sketch))


def base_pairs(sketch):
    """The pairs of a base and its save."""
    return [(told[0], save) for save, told in sketch.items() if told[0] is not None]


def sound_names(sketch):
    """The list of the known saves and gaps whose ways do not go round, each base ahead."""
    return sequence_of(names_in(sketch), base_pairs(sketch))


def grounds_in(sketch):
    """The dict from the known saves whose ways do not go round to their grounds."""
    grounds = {gap: gap for gap in gaps_in(sketch)}
    for save in [name for name in sound_names(sketch) if name in sketch]:
        base = sketch[save][0]
        grounds[save] = None if base is None else grounds[base]
    return {save: ground for save, ground in grounds.items() if save in sketch}


def outlines_in(sketch):
    """The dict from the saves and gaps of which there is an outline to it."""
    outlines = {gap: Outline(gap) for gap in gaps_in(sketch)}
    for save in [name for name in sound_names(sketch) if name in sketch]:
        ahead, mark = outline_ahead(sketch, outlines, save), sketch[save][1]
        if ahead is not None and ahead.reason_against(mark) is None:
            outlines[save] = ahead.followed(save, mark)
    return outlines


def outline_ahead(sketch, outlines, save):
    """The outline of the base of a known save, None if there is none among the outlines."""
    base = sketch[save][0]
    return Outline(None) if base is None else outlines.get(base)


def said_by(sketch, outlines, save):
    """What a known save with an outline says of its ground."""
    ahead = outline_ahead(sketch, outlines, save).asks
    return {name: length for name, length in outlines[save].asks.items() if name not in ahead}


def gaps(sketch):
    """The ascending tuple of all gaps."""
    check_sketch(sketch)
    return tuple(gaps_in(sketch))


def check_gap(sketch, gap):
    """The errors for a sketch and a gap of it."""
    check_sketch(sketch)
    check_save_name(gap)
    if gap not in gaps_in(sketch):
        raise UnknownName(gap)


def above(sketch, gap):
    """The ascending tuple of all saves above a gap."""
    check_gap(sketch, gap)
    return saves_above(sketch, gap)


def saves_above(sketch, gap):
    """The saves above a gap of a checked sketch."""
    grounds = grounds_in(sketch)
    return tuple([save for save in sorted(grounds) if grounds[save] == gap])


def says(sketch, save):
    """What a known save says of its ground."""
    check_sketch(sketch)
    check_save_name(save)
    if save not in sketch:
        raise UnknownName(save)
    way, ground = sound_way(sketch, save)
    asks = outline_along(sketch, way, ground).asks
    ahead = outline_along(sketch, way[:-1], ground).asks
    return {name: length for name, length in asks.items() if name not in ahead}


def clash_of(sketch):
    """A clash of the sketch, None if there is none."""
    check_sketch(sketch)
    return clash_in_sketch(sketch)


def clash_in_sketch(sketch):
    """A clash of a checked sketch, None if there is none."""
    found = ring_clash(sketch)
    if found is not None:
        return found
    outlines = outlines_in(sketch)
    found = deed_clash(sketch, outlines)
    return gap_clash(sketch, outlines) if found is None else found


def ring_clash(sketch):
    """A clash of time in a checked sketch, None if there is none."""
    names = names_in(sketch)
    every = base_pairs(sketch) + hand_pairs(names)
    sequence = sequence_of(names, every)
    if len(sequence) == len(names):
        return None
    return ("ring", ring_in(names, every, sequence))


def deed_clash(sketch, outlines):
    """A clash of a mark that cannot follow, None if there is none."""
    for save in sorted(sketch):
        ahead = outline_ahead(sketch, outlines, save)
        if save not in outlines and ahead is not None:
            return ("deed", save, ahead.reason_against(sketch[save][1]))
    return None


def gap_clash(sketch, outlines):
    """A clash of what two saves say of a gap, None if there is none."""
    first = {}
    for save in sorted(sketch):
        if save in outlines:
            gap = outlines[save].ground
            for name, length in said_by(sketch, outlines, save).items():
                one, told = first.setdefault((gap, name), (save, length))
                if told != length:
                    return ("gap", gap, name, one, save)
    return None


def is_clash_of(sketch, value):
    """Whether the value is a clash of the sketch."""
    check_sketch(sketch)
    return is_sketch_clash(sketch, value)


def is_sketch_clash(sketch, value):
    """Whether the value is a clash of a checked sketch."""
    if not isinstance(value, tuple):
        return False
    if len(value) == 2 and value[0] == "ring":
        return is_ring_clash(sketch, value[1])
    if len(value) == 3 and value[0] == "deed":
        return is_deed_clash(sketch, value[1], value[2])
    if len(value) == 5 and value[0] == "gap":
        return is_gap_clash(sketch, value[1:])
    return False


def is_ring_clash(sketch, value):
    """Whether the value is a ring of at least two unlike known saves and gaps."""
    if not isinstance(value, tuple) or len(value) < 2 or not all([is_save_name(save) for save in value]):
        return False
    names = names_in(sketch)
    if len(set(value)) != len(value) or not all([save in names for save in value]):
        return False
    return is_ring(base_pairs(sketch), value)


def is_deed_clash(sketch, save, reason):
    """Whether the mark of a known save cannot follow the outline of its base, for this reason."""
    if not is_save_name(save) or save not in sketch:
        return False
    outlines = outlines_in(sketch)
    ahead = outline_ahead(sketch, outlines, save)
    return ahead is not None and save not in outlines and ahead.reason_against(sketch[save][1]) == reason


def is_gap_clash(sketch, value):
    """Whether the value tells a gap, a name, and two saves above that say unlike things of it."""
    gap, name, one, other = value
    if not is_name(name) or not all([is_save_name(save) for save in (gap, one, other)]) or not one < other:
        return False
    outlines = outlines_in(sketch)
    if not all([save in sketch and save in outlines for save in (one, other)]):
        return False
    if outlines[one].ground != gap or outlines[other].ground != gap:
        return False
    first, second = said_by(sketch, outlines, one), said_by(sketch, outlines, other)
    return name in first and name in second and first[name] != second[name]


def said(sketch, gap):
    """All that is said of a gap, a dict from names to None or a length."""
    check_gap(sketch, gap)
    found = clash_in_sketch(sketch)
    if found is not None:
        raise Refused(found)
    return said_in(outlines_in(sketch))[gap]


def said_in(outlines):
    """The dict from all gaps to what is said of them by the saves with outlines, which do not clash."""
    told = {}
    for outline in outlines.values():
        if outline.ground is not None:
            told.setdefault(outline.ground, {}).update(outline.asks)
    return {gap: {name: told[gap][name] for name in sorted(told[gap])} for gap in sorted(told)}


def fitting_tree(sketch, gap):
    """A tree that fits all that is said of a gap."""
    return tree_for(said(sketch, gap), 0)


def tree_for(asks, cell):
    """The tree that has just the entries that are asked for, all with this cell."""
    return {name: (cell,) * length for name, length in asks.items() if length is not None}


def is_fitting(sketch, gap, value):
    """Whether with this tree of the gap all saves above it can be done, each one with its mark."""
    check_gap(sketch, gap)
    outlines = outlines_in(sketch)
    if not is_tree(value) or not all([save in outlines for save in saves_above(sketch, gap)]):
        return False
    return all([does_fit_asks(value, outline.asks) for outline in outlines.values() if outline.ground == gap])


def sights(frames):
    """The dict from the names of all saves with frames to their sights."""
    check_frames(frames)
    return sights_in(frames)


def sights_in(frames):
    """The sights of checked frames, however many."""
    return {save: sight_of(bodies) for save, bodies in lots_in(frames).items()}


def sight_of(bodies):
    """What the ascending bodies of one save tell of it: n, base, mark and payloads."""
    least = bodies[0]
    told = {}
    for body in bodies:
        told.setdefault(body[3], body[14:])
    return (least[4], base_in(least), mark_in(least), {index: told[index] for index in sorted(told)})


def sketch_of(frames):
    """The dict from the names of all saves with frames to base and mark."""
    check_frames(frames)
    return sketch_in(sights_in(frames))


def sketch_in(told):
    """The sketch of sights."""
    return {save: (base, mark) for save, (n, base, mark, payloads) in told.items()}


def clash(frames):
    """A clash of the frames, None if there is none."""
    check_frames(frames)
    return clash_in_frames(frames)


def check_agreeing(frames):
    """Refused with a clash if checked frames, however many, do not agree."""
    found = clash_in_frames(frames)
    if found is not None:
        raise Refused(found)


def clash_in_frames(frames):
    """A clash of checked frames, however many; None if there is none."""
    for bodies in list(lots_in(frames).values()):
        found = twin_clash(bodies)
        if found is not None:
            return found
    told = sights_in(frames)
    for save, sight in told.items():
        found = poly_clash(save, sight)
        if found is not None:
            return found
    return clash_in_sketch(sketch_in(told))


def twin_clash(bodies):
    """A clash of two of the ascending bodies of one save, None if there is none."""
    for body in bodies:
        if marks_in(body) != marks_in(bodies[0]):
            return ("marks", bodies[0], body)
    for one, other in zip(bodies, bodies[1:]):
        if one[3] == other[3]:
            return ("index", one, other)
    return None


def sight_places(sight, column):
    """The known places of a column of a save with this sight."""
    return column_places(sight[3], mark_length(sight[2]), column)


def sight_rows(sight):
    """How many rows the new cells of a save with this sight have."""
    return row_count(mark_length(sight[2]))


def poly_clash(save, sight):
    """A clash of known places of a column, None if there is none."""
    many = sight_rows(sight)
    for column in range(ROW):
        known = sight_places(sight, column)
        place = off_place(known, many)
        if place is not None:
            return ("poly", save, column, tuple(list(known)[:many]) + (place,))
    return None
