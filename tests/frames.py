"""Frames of drawn histories, bent ones, and a history for frames that agree."""

from stillread.base.polys import through, value_at
from stillread.lots.spread import all_frames, frames_of, is_body
from stillread.plain.histories import time_sequence
from tests.bodies import plain_k
from tests.sketches import cells_for, drawn_history_deed, plain_deed_of, wide_deed
from tests.stories import plain_deed

ARCHIVE = 7


def drawn_story(draw, many, wide=0.15):
    """A history in which deeds of one save often touch what others did, and the dict of its versions."""
    saves, trees, last = [], {}, {}
    for _ in range(many):
        hand = draw.choice((1, 2, 3))
        last[hand] = last.get(hand, 0) + draw.choice((1, 1, 2))
        base = draw.choice([None] + list(trees) * 3 + list(trees)[-2:] * 2)
        tree = trees.get(base, {})
        deed = wide_deed(draw, tree) if draw.random() < wide else drawn_history_deed(draw, tree)
        k = plain_k(len(deed[-1]) if deed[0] in ("put", "patch") else 0)
        if base is None and deed[0] != "put":
            continue
        saves.append((hand, last[hand], base, deed, min(16, k + draw.choice((0, 0, 1, 3)))))
        trees[(hand, last[hand])] = plain_deed(tree, deed)[0]
    return tuple(saves), trees


def some_frames(draw, history, most=491):
    """Some of the frames of a history, in any sequence, also twice; often none of some saves."""
    lost = [save[:2] for save in history if draw.random() < 0.3]
    share = draw.choice((0.3, 0.7, 1))
    frames = [body for body in all_frames(ARCHIVE, history) if body[1:3] not in lost and draw.random() < share]
    frames = frames + [body for body in frames if draw.random() < 0.1]
    draw.shuffle(frames)
    return tuple(frames[:most])


def bent_body(draw, body):
    """A body that is unlike another one in a cell or two."""
    for _ in range(300):
        other = list(body)
        for at in draw.sample(draw.choice((range(20), range(14, 20), (6, 10, 11, 12, 13), (5, 6))), draw.choice((1, 1, 2))):
            other[at] = max(0, min(996, draw.choice((other[at] + 1, other[at] - 1, draw.randrange(4), draw.randrange(997)))))
        other[0] = body[0]
        if tuple(other) != body and is_body(tuple(other)):
            return tuple(other)
    return body


def bent_frames(draw, frames):
    """The frames with one or two that nobody wrote."""
    told = list(frames)
    for _ in range(draw.choice((1, 1, 2)) if told else 0):
        at = draw.randrange(len(told))
        if draw.random() < 0.5:
            told[at] = bent_body(draw, told[at])
        else:
            told.append(bent_body(draw, told[at]))
    return tuple(told)


def plain_sights(frames):
    """n, base, mark cells and payloads of each save, by the least frames."""
    told = {}
    for body in sorted(frames, reverse=True):
        n, base, payloads = body[4], body[5:7] if body[5] else None, told.get(body[1:3], (0, 0, 0, {}))[3]
        told[body[1:3]] = (n, base, body[7:14], {**payloads, body[3]: body[14:]})
    return told


def plain_column(sight, column):
    """The known places of a column of a save."""
    length = sight[2][5]
    known = {row: 0 for row in range(plain_k(length)) if 6 * row + column >= length}
    return {**known, **{index: payload[column] for index, payload in sight[3].items()}}


def drawn_column(draw, sight, column):
    """The rows of a column by a poly through the known places and through drawn numbers elsewhere."""
    k, known = plain_k(sight[2][5]), plain_column(sight, column)
    points = sorted(known.items())[:k]
    for row in range(k):
        if len(points) < k and row not in known:
            points.append((row, draw.randrange(997)))
    poly = through(tuple(points))
    return [value_at(poly, row) for row in range(k)]


def history_for(draw, frames, sketch, trees):
    """A history that has frames which agree, with these trees of the gaps and drawn new cells."""
    sights = plain_sights(frames)
    named = sorted(set(sketch) | set(trees))
    pairs = tuple((base, save) for save, (base, mark) in sketch.items() if base is not None)
    hands = [hand for hand in range(1, 997) if hand not in [save[0] for save in named]]
    saves, ends = [], {}
    for gap, tree in trees.items():
        saves, ends[gap] = saves + tree_saves(hands.pop(), tree), None
        ends[gap] = saves[-1][:2]
    for save in time_sequence(tuple(named), pairs):
        if save in trees:
            tree = trees[save]
            deed = ("patch", sorted(tree)[0], 0, 0, ()) if tree else ("drop", "zzzz")
            saves.append(save + (ends[save], deed, 1))
        else:
            base, mark = sketch[save]
            columns = [drawn_column(draw, sights[save], column) for column in range(6)]
            cells = tuple(columns[at % 6][at // 6] for at in range(len(cells_for(draw, mark))))
            saves.append(save + (base, plain_deed_of(mark, cells), sights[save][0]))
    return tuple(saves)


def tree_saves(hand, tree):
    """Saves of a hand that lead to a tree, or to one with a last entry to be dropped."""
    saves = []

    def put(deed):
        number = len(saves) + 1
        saves.append((hand, number, (hand, number - 1) if saves else None, deed, 8))
    for name, cells in tree.items():
        put(("put", name, cells[:48]))
        for at in range(48, len(cells), 48):
            put(("patch", name, at, 0, cells[at:at + 48]))
    if not tree:
        put(("put", "zzzz", ()))
    return saves


def wild_frames(draw):
    """Some frames of saves that know nothing of one another."""
    frames = []
    for _ in range(draw.randint(1, 5)):
        save = (draw.choice((1, 2)), draw.randint(1, 4))
        base = draw.choice(((1, 1), (1, 2), (2, 1), (2, 4), (3, 1), (3, 1), (3, 1)))
        base = None if base == save or (base[0] == save[0] and base[1] > save[1]) else base
        word = draw.choice(("drop", "rename", "patch", "put")) if base else "put"
        name, other = draw.sample(("a", "b", "c"), 2)
        ahead = draw.choice((1, 1, 2)) if word != "put" else 0
        deed = {"drop": ("drop", name), "rename": ("rename", name, other), "put": ("put", name, (1, 2)),
                "patch": ("patch", name, 1, 0, (draw.randint(1, 2),))}[word]
        frames.extend(draw.sample(frames_of(ARCHIVE, save + (base, deed, 2), ahead), draw.choice((1, 1, 2))))
    return tuple(frames)
