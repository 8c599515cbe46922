"""Sketches as the tests draw them, and a plain reading of them to compare with."""

import itertools

from tests.bodies import drawn_deed, plain_mark
from tests.stories import plain_deed

NAMES = ("a", "b", "c", "d")


def drawn_mark(draw, tree):
    """A mark that often can be done on a tree of these lengths, and often just not."""
    word = draw.choice(("put", "put", "patch", "patch", "drop", "rename"))
    name, other = draw.sample(NAMES, 2)
    if word == "put":
        return (word, name, draw.choice((0, 1, 2, 7)))
    ahead = len(tree[name]) if name in tree and draw.random() < 0.93 else draw.randint(0, 4)
    if word == "patch":
        at = draw.randint(0, ahead)
        return (word, name, at, draw.randint(0, ahead - at), draw.choice((0, 1, 3)), ahead)
    return (word, name, ahead) if word == "drop" else (word, name, other, ahead)


def cells_for(draw, mark):
    """New cells for a mark."""
    many = mark[2] if mark[0] == "put" else mark[4] if mark[0] == "patch" else 0
    return tuple(draw.randrange(997) for _ in range(many))


def plain_deed_of(mark, cells):
    if mark[0] == "put":
        return mark[:2] + (cells,)
    return mark[:4] + (cells,) if mark[0] == "patch" else mark[:-1]


def plain_step(tree, mark, cells):
    """The tree behind a deed with this mark, `None` if it cannot be done, or with another mark alone."""
    deed = plain_deed_of(mark, cells)
    behind, reason = plain_deed(tree, deed)
    if reason is not None or plain_mark(deed, len(tree.get(deed[1], ()))) != mark:
        return None
    return behind


def drawn_ground(draw):
    return {name: tuple(draw.randrange(997) for _ in range(draw.randint(0, 4))) for name in draw.sample(
        NAMES, draw.randint(0, 4))}


def plain_way(sketch, save):
    """The saves of a way and its ground; `None` if it goes round."""
    way = []
    while save in sketch:
        if save in way:
            return None
        way.insert(0, save)
        save = sketch[save][0]
    return tuple(way), save


def plain_gaps(sketch):
    return sorted({base for base, mark in sketch.values() if base is not None and base not in sketch})


def drawn_sketch(draw, many, wild=0.1):
    """A sketch made of trees of its gaps, in which some marks and bases are drawn wildly."""
    trees = {(9, 1): drawn_ground(draw), (9, 2): drawn_ground(draw), None: {}}
    sketch, last = {}, {}
    for _ in range(many):
        hand = draw.choice((1, 2, 3))
        last[hand] = last.get(hand, 0) + draw.choice((1, 1, 2))
        save, base = (hand, last[hand]), draw.choice(list(trees))
        mark = drawn_mark(draw, trees[base])
        behind = plain_step(trees[base], mark, cells_for(draw, mark))
        if behind is None and draw.random() > wild:
            continue
        if draw.random() < wild / 2 and sketch:
            base = draw.choice([one for one in ((1, 1), (1, 3), (2, 2), (3, 5), (9, 1)) if one != save])
        sketch[save] = (base, mark)
        if behind is not None:
            trees[save] = behind
    names = list(sketch)
    draw.shuffle(names)
    return {save: sketch[save] for save in names}


def drawn_history_deed(draw, tree):
    """A deed that can be done on a tree."""
    while True:
        mark = drawn_mark(draw, tree)
        cells = cells_for(draw, mark)
        if plain_step(tree, mark, cells) is not None:
            return plain_deed_of(mark, cells)


def wide_deed(draw, tree):
    """A deed with up to 48 new cells that can be done on a tree."""
    while True:
        deed, ahead = drawn_deed(draw, draw.choice(("put", "patch")), draw.choice((0, 6, 7, 13, 48)))
        if plain_deed(tree, deed)[1] is None:
            return deed


def plain_follow(told, ground, mark):
    """What is told behind a mark: lengths of entries, gone names and asks; or the reason against it."""
    lengths, gone, asks = dict(told[0]), set(told[1]), dict(told[2])
    word, name = mark[:2]
    if word != "put":
        if name in gone or (name not in lengths and ground is None):
            return None, ("gone", name)
        if name not in lengths:
            lengths[name] = asks[name] = mark[-1]
        if lengths[name] != mark[-1]:
            return None, ("length", name)
    if word == "rename":
        if mark[2] in lengths:
            return None, ("there", mark[2])
        if mark[2] not in gone and ground is not None:
            asks[mark[2]] = None
    if word == "put":
        lengths[name] = mark[2]
        gone.discard(name)
    elif word == "patch":
        lengths[name] += mark[4] - mark[3]
    else:
        length = lengths.pop(name)
        gone.add(name)
        if word == "rename":
            lengths[mark[2]] = length
            gone.discard(mark[2])
    return (lengths, gone, asks), None


def plain_told(sketch, save):
    """What is told behind the marks of a way; `None` if it goes round, or if a mark cannot follow."""
    way = plain_way(sketch, save) if save is not None else ((), None)
    if way is None:
        return None
    told = ({}, set(), {})
    for one in way[0]:
        told = plain_follow(told, way[1], sketch[one][1])[0]
        if told is None:
            return None
    return told


def plain_says(sketch, save):
    """What a save with an outline says of its ground; `None` without one."""
    told = plain_told(sketch, save)
    if told is None:
        return None
    ahead = plain_told(sketch, sketch[save][0])
    return {name: told[2][name] for name in sorted(told[2]) if name not in ahead[2]}


def plain_is_ahead(sketch, one, other):
    return (other in sketch and sketch[other][0] == one) or (one[0] == other[0] and one[1] < other[1])


def plain_is_clash(sketch, value):
    """Whether a value of one of the three forms is a clash of the sketch, by the words of [13.3]."""
    if value[0] == "ring":
        ring = value[1]
        named = all(save in sketch or save in plain_gaps(sketch) for save in ring)
        if len(ring) < 2 or len(set(ring)) < len(ring) or not named:
            return False
        return all(plain_is_ahead(sketch, one, other) for one, other in zip(ring, ring[1:] + ring[:1]))
    if value[0] == "deed":
        if value[1] not in sketch:
            return False
        base, mark = sketch[value[1]]
        told, way = plain_told(sketch, base), plain_way(sketch, value[1])
        return told is not None and way is not None and plain_follow(told, way[1], mark)[1] == value[2] is not None
    gap, name, one, other = value[1:]
    if gap not in plain_gaps(sketch) or not one < other or one not in sketch or other not in sketch:
        return False
    if any(plain_way(sketch, save) is None or plain_way(sketch, save)[1] != gap for save in (one, other)):
        return False
    first, second = plain_says(sketch, one), plain_says(sketch, other)
    if first is None or second is None or name not in first or name not in second:
        return False
    return first[name] != second[name]


def all_clashes(sketch, longest=3):
    """All values that could be clashes of the sketch, rings up to a length."""
    names = sorted(set(sketch) | set(plain_gaps(sketch)))
    for many in range(1, longest + 1):
        for ring in itertools.product(names, repeat=many):
            yield ("ring", ring)
    for save in names:
        for word in ("gone", "length", "there"):
            for name in NAMES:
                yield ("deed", save, (word, name))
    for gap, one, other in itertools.product(plain_gaps(sketch) + names[:1], sketch, sketch):
        for name in NAMES:
            yield ("gap", gap, name, one, other)


def plain_trees(draw, sketch, grounds):
    """The trees of all saves above these trees of the gaps with drawn cells; `None` if a deed cannot be done."""
    trees = {None: {}, **grounds}
    left = [save for save in sketch if plain_way(sketch, save) is not None]
    while left:
        save = [one for one in left if sketch[one][0] in trees][0]
        base, mark = sketch[save]
        trees[save] = plain_step(trees[base], mark, cells_for(draw, mark))
        if trees[save] is None:
            return None
        left.remove(save)
    return trees
