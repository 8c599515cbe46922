"""Folds: few saves that lead to the trees of some versions, and keep these by frames of their own."""

from stillread.base.checks import check_number
from stillread.errors import InvalidSave, InvalidTree, Refused, TooMany, UnknownName
from stillread.keep.archive import does_name
from stillread.lots.spread import all_frames, check_frames
from stillread.plain.histories import MOST_FRAMES, MOST_HAND, is_history, is_save_name, rows_for, version_in
from stillread.plain.trees import check_tree, entry_deeds, is_tree
from stillread.read.told import Reading

MOST_TREES = 12
MOST_NUMBER = 996
MOST_MORE = 15


def check_trees(trees):
    """InvalidTree unless it is a tuple of at most 12 trees."""
    if not isinstance(trees, tuple) or len(trees) > MOST_TREES or not all([is_tree(tree) for tree in trees]):
        raise InvalidTree("no tuple of at most 12 trees")


def steps(one, other):
    """The deeds that lead from a tree to another one."""
    check_tree(one)
    check_tree(other)
    return tuple(steps_between(one, other))


def steps_between(one, other):
    """The list of the steps between two checked trees."""
    drops = [("drop", name) for name in sorted(one) if name not in other]
    return drops + [deed for name in sorted(other) if other[name] != one.get(name)
                    for deed in entry_deeds(name, other[name])]


def distance(one, other):
    """How many steps lead from a tree to another one."""
    return len(steps(one, other))


def nearest(trees, index):
    """The index of the nearest one of the trees ahead of a tree, None for the tree without entries; and the steps."""
    best = (None, steps_between({}, trees[index]))
    for ahead in range(index):
        found = steps_between(trees[ahead], trees[index])
        if len(found) < len(best[1]):
            best = (ahead, found)
    return best


def fold(trees, hand, *, more=0):
    """The saves of a hand that lead to the trees, and the names of those whose versions these are."""
    check_trees(trees)
    check_number(hand, 1, MOST_HAND)
    check_number(more, 0, MOST_MORE)
    return folded(trees, hand, more)


def folded(trees, hand, more):
    """The same for checked arguments."""
    saves = []
    names = []
    for index in range(len(trees)):
        ahead, found = nearest(trees, index)
        base = None if ahead is None else names[ahead]
        for deed in found:
            if len(saves) >= MOST_NUMBER:
                raise TooMany(MOST_NUMBER)
            save = (hand, len(saves) + 1)
            saves.append(save + (base, deed, min(MOST_FRAMES, rows_for(deed) + more)))
            base = save
        names.append(base)
    return (tuple(saves), tuple(names))


def is_fold(trees, value):
    """Whether the value is any fold of the trees."""
    check_trees(trees)
    if not isinstance(value, tuple) or len(value) != 2 or not is_history(value[0]):
        return False
    names = value[1]
    if not isinstance(names, tuple) or len(names) != len(trees):
        return False
    if not all([name is None or is_save_name(name) for name in names]):
        return False
    known = {save[:2]: True for save in value[0]}
    if not all([name is None or name in known for name in names]):
        return False
    return all([tree == version_at(value[0], name) for name, tree in zip(names, trees)])


def version_at(history, name):
    """The version of a save of a checked history, for None the tree without entries."""
    return {} if name is None else version_in(history, name)


def fold_number(trees):
    """How many saves the fold of the trees has."""
    check_trees(trees)
    return sum([len(nearest(trees, index)[1]) for index in range(len(trees))])


def check_saves(saves):
    """InvalidSave unless it is a tuple of at most 12 names of saves."""
    if not isinstance(saves, tuple) or len(saves) > MOST_TREES or not all([is_save_name(save) for save in saves]):
        raise InvalidSave("no tuple of at most 12 names of saves")


def kept(frames, saves, hand, *, more=0):
    """The frames of the fold of the versions of some whole saves, and the names that these have there."""
    check_frames(frames)
    check_saves(saves)
    check_number(hand, 1, MOST_HAND)
    check_number(more, 0, MOST_MORE)
    reading = Reading(frames)
    unknown = [save for save in saves if save not in reading.saves]
    if unknown:
        raise UnknownName(unknown[0])
    trees = reading.versions()
    partly = [save for save in saves if save not in trees]
    if partly:
        raise Refused(("open", partly[0]))
    if any([does_name(body, hand) for body in frames]):
        raise Refused(("hand", hand))
    history, names = folded(tuple([trees[save] for save in saves]), hand, more)
    # Without frames no save is named, and the fold has none.
    return (all_frames(frames[0][0], history) if history else (), names)
