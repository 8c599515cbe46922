"""Fillings: what tells one of all histories that have some frames, and histories with unlike answers."""

from stillread.base.checks import is_number
from stillread.base.names import is_cells
from stillread.base.polys import combined, interpolated, multiplied, poly_divided, with_roots
from stillread.errors import InvalidOperation, TooMany
from stillread.lots.columns import poly_through
from stillread.lots.gather import cells_by
from stillread.lots.spread import ROW, cell_rows, check_frames
from stillread.paper.checker import are_had, check_question
from stillread.plain.histories import MOST_HAND, check_history, check_save_name, is_save_name, rows_for, version_in
from stillread.plain.sequences import hand_pairs, sequence_of
from stillread.plain.trees import entry_deeds, is_tree, put_cells, sorted_tree
from stillread.read.constraints import sight_places, sight_rows, tree_for
from stillread.read.marks import deed_made, mark_length
from stillread.read.pieces import does_fit_asks
from stillread.read.views import View, answer_by, check_named, said_of, source_of, view_of

MOST_PUTS = 13000
# What makes a tree without entries: an entry that is dropped again.
EMPTIED = (("put", "a", ()), ("drop", "a"))


def free_numbers(frames):
    """The dict from the pairs (save, column) of all columns with free numbers to how many there are."""
    return free_in(view_of(frames))


def free_in(view):
    """The free numbers of a view."""
    free = {}
    for save, sight in view.sights.items():
        for column in range(ROW):
            lacking = sight_rows(sight) - len(sight_places(sight, column))
            if lacking > 0:
                free[(save, column)] = lacking
    return free


def is_filling(frames, value):
    """Whether the value is a filling of the frames."""
    return is_filling_of(view_of(frames), value)


def is_filling_of(view, value):
    """Whether the value is a filling of a view."""
    if not isinstance(value, tuple) or len(value) != 2:
        return False
    return are_trees(view, value[0]) and are_numbers(free_in(view), value[1])


def are_trees(view, value):
    """Whether the value is a dict from all gaps to trees that fit all that is said of them."""
    if not isinstance(value, dict) or not all([is_save_name(gap) for gap in value]):
        return False
    if sorted(value) != list(view.said):
        return False
    return all([is_tree(tree) and does_fit_asks(tree, view.said[gap]) for gap, tree in value.items()])


def are_numbers(free, value):
    """Whether the value is a dict from all columns with free numbers to so many cells."""
    if not isinstance(value, dict) or not all([is_column(key) for key in value]) or sorted(value) != list(free):
        return False
    return all([is_cells(numbers) and len(numbers) == free[key] for key, numbers in value.items()])


def is_column(value):
    """Whether the value is a pair of the name of a save and the index of a column."""
    return (isinstance(value, tuple) and len(value) == 2 and is_save_name(value[0])
            and is_number(value[1], 0, ROW - 1))


def some_filling(frames):
    """A filling that `filled` lets."""
    return least_filling(view_of(frames))


def least_filling(view):
    """The filling of a view with just those entries that are said to be there, and with zeros."""
    trees = {gap: tree_for(asks, 0) for gap, asks in view.said.items()}
    return (trees, {key: (0,) * many for key, many in free_in(view).items()})


def filling_of(frames, history):
    """The filling of a history that has the frames."""
    check_frames(frames)
    check_history(history)
    view = View(frames)
    if not are_had(history, frames):
        raise InvalidOperation("a history that does not have the frames")
    trees = {gap: version_in(history, gap) for gap in view.said}
    deeds = {save[:2]: save[3] for save in history}
    numbers = {}
    for (save, column), many in free_in(view).items():
        numbers[(save, column)] = numbers_in(view.sights[save], column, put_cells(deeds[save]), many)
    return (trees, numbers)


def numbers_in(sight, column, cells, many):
    """The free numbers of a column of a save with this sight and these new cells."""
    points = tuple([(row, numbers[column]) for row, numbers in enumerate(cell_rows(cells))])
    # The poly through the known places alone has a lesser degree than the one that is 0 there: it is in the rest.
    quotient, rest = poly_divided(interpolated(points), with_roots(list(sight_places(sight, column))))
    return quotient + (0,) * (many - len(quotient))


def filled_cells(view, numbers):
    """The dict from the saves that are there to their new cells, by the free numbers."""
    return {save: cells_with(save, sight, numbers) for save, sight in view.sights.items()}


def cells_with(save, sight, numbers):
    """The new cells of a save with this sight, by the free numbers."""
    polys = []
    for column in range(ROW):
        known = sight_places(sight, column)
        change = multiplied(with_roots(list(known)), numbers.get((save, column), ()))
        polys.append(combined(poly_through(known, sight_rows(sight)), change, 1))
    return cells_by(polys, mark_length(sight[2]))


def check_filling(view, filling):
    """InvalidOperation unless it is a filling of a view."""
    if not is_filling_of(view, filling):
        raise InvalidOperation("no filling of these frames")


def filled(frames, filling):
    """A history with the frames and this filling."""
    view = view_of(frames)
    check_filling(view, filling)
    puts = sum([len(entry_deeds(name, cells)) for tree in filling[0].values() for name, cells in tree.items()])
    if puts > MOST_PUTS:
        raise TooMany(MOST_PUTS)
    return history_by(view, filling)


def tree_deeds(tree):
    """The list of the deeds, at least one, that lead to a tree from one without entries."""
    deeds = [deed for name in sorted(tree) for deed in entry_deeds(name, tree[name])]
    return deeds if deeds else list(EMPTIED)


def history_by(view, filling):
    """The history with a filling that has no more puts than there may be."""
    trees, numbers = filling
    named = {save[0]: True for save in view.outlines}
    fresh = [hand for hand in range(1, MOST_HAND + 1) if hand not in named]
    saves = []
    bases = {}
    for gap in view.said:
        deeds = tree_deeds(trees[gap])
        base = None
        for deed in deeds[:-1]:
            name = (fresh[len(saves) // MOST_HAND], len(saves) % MOST_HAND + 1)
            saves.append(name + (base, deed, rows_for(deed)))
            base = name
        bases[gap] = gap + (base, deeds[-1], rows_for(deeds[-1]))
    return tuple(saves) + named_saves(view, bases, filled_cells(view, numbers))


def named_saves(view, gaps, cells):
    """All named saves in a sequence of time: those of the gaps as told, the others with these new cells."""
    names = sorted(view.outlines)
    pairs = [(sight[1], save) for save, sight in view.sights.items() if sight[1] is not None]
    saves = []
    for save in sequence_of(names, pairs + hand_pairs(names)):
        if save in gaps:
            saves.append(gaps[save])
        else:
            n, base, mark, payloads = view.sights[save]
            saves.append(save + (base, deed_made(mark, cells[save]), n))
    return tuple(saves)


def version_by(frames, filling, save):
    """The version of a named save in each history with this filling."""
    check_frames(frames)
    check_save_name(save)
    view = View(frames)
    check_filling(view, filling)
    check_named(view, save)
    trees, numbers = filling
    outline = view.outlines[save]
    below = {} if outline.ground is None else trees[outline.ground]
    return outline.with_cells(below, filled_cells(view, numbers))


def unlike_histories(frames, question):
    """Two histories that have the frames, and unlike answers; None if the question is told."""
    check_frames(frames)
    check_question(question)
    view = View(frames)
    check_named(view, question[1])
    if answer_by(view, question) is not None:
        return None
    filling = least_filling(view)
    return (history_by(view, filling), history_by(view, other_filling(view, filling, question)))


def other_filling(view, filling, question):
    """A filling with another answer to an open question than the least filling has."""
    trees, numbers = filling
    save, name = question[1], question[2]
    if said_of(view, save, name) is None:
        # The least filling does not have the entry, so one that is longer than each place is unlike.
        many = question[3] + 1 if question[0] == "cell" else 0
        return (with_entry(trees, view.outlines[save].ground, name, (0,) * many), numbers)
    (word, origin), index = source_of(view, save, name, question[3])
    if word == "below":
        gap = view.outlines[save].ground
        cells = trees[gap][origin]
        return (with_entry(trees, gap, origin, cells[:index] + (1,) + cells[index + 1:]), numbers)
    key = (origin, index % ROW)
    return (trees, {other: (1,) + told[1:] if other == key else told for other, told in numbers.items()})


def with_entry(trees, gap, name, cells):
    """The trees with another entry in the tree of a gap."""
    changed = {other: tree for other, tree in trees.items()}
    changed[gap] = sorted_tree({**trees[gap], name: cells})
    return changed
