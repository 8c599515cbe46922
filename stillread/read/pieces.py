"""Ways and grounds of saves, and outlines: versions of which the cells are told by their sources."""

from stillread.base.names import is_cells
from stillread.errors import InvalidCells, Refused, UnknownName
from stillread.plain.histories import check_save_name, is_save_name
from stillread.plain.trees import check_tree, sorted_tree
from stillread.read.marks import cells_in, check_mark, check_sketch, joined, mark_length, part_of


def way_in(sketch, save):
    """The pair of the way of a save of a checked sketch and its ground, None if the way goes round."""
    way = []
    seen = {}
    while save in sketch:
        if save in seen:
            return None
        seen[save] = True
        way.append(save)
        save = sketch[save][0]
    return (tuple(way[::-1]), save)


def gaps_in(sketch):
    """The ascending list of the gaps of a checked sketch."""
    bases = {base: True for base, mark in sketch.values() if base is not None and base not in sketch}
    return sorted(bases)


def checked_way(sketch, save):
    """The pair of the way and the ground of a save, with the errors of both arguments."""
    check_sketch(sketch)
    check_save_name(save)
    if save not in sketch and save not in gaps_in(sketch):
        raise UnknownName(save)
    return sound_way(sketch, save)


def sound_way(sketch, save):
    """The pair of the way and the ground of a known save or a gap, Refused if the way goes round."""
    told = way_in(sketch, save)
    if told is None:
        raise Refused(("round", save))
    return told


def way_of(sketch, save):
    """The way of a save, the first save of it first."""
    way, ground = checked_way(sketch, save)
    return way


def ground_of(sketch, save):
    """The ground of a save: a gap, or None."""
    way, ground = checked_way(sketch, save)
    return ground


def outline_of(sketch, save):
    """The outline of the version of a save."""
    way, ground = checked_way(sketch, save)
    return outline_along(sketch, way, ground)


def outline_along(sketch, way, ground):
    """The outline behind the marks of a way."""
    outline = Outline(ground)
    for save in way:
        mark = sketch[save][1]
        reason = outline.reason_against(mark)
        if reason is not None:
            raise Refused(("deed", save, reason))
        outline = outline.followed(save, mark)
    return outline


def does_fit_asks(tree, asks):
    """Whether a checked tree has just those entries that are asked for, and with their lengths."""
    lengths = {name: len(cells) for name, cells in tree.items()}
    return all([lengths.get(name) == length for name, length in asks.items()])


def are_save_cells(value):
    """Whether the value is a dict from names of saves to tuples of cells."""
    return isinstance(value, dict) and all([is_save_name(save) and is_cells(cells) for save, cells in value.items()])


def whole_row(source, many):
    """The row of the first cells of a source, () for none."""
    return ((source, 0, many),) if many else ()


def row_cells(row, tree, cells):
    """The cells of a row, with the tree of the ground and the new cells of saves."""
    found = ()
    for (word, name), first, many in row:
        source = cells[name] if word == "new" else tree[name]
        found = found + source[first:first + many]
    return found


def wanted_cells(rows):
    """The dict from the saves of which rows have cells to how many of these there have to be."""
    wanted = {}
    for (word, save), first, many in [piece for row in rows for piece in row]:
        if word == "new":
            wanted[save] = max(wanted.get(save, 0), first + many)
    return wanted


class Outline:
    """What the marks of a way make of the tree of its ground. It never changes."""

    def __init__(self, ground):
        if ground is not None:
            check_save_name(ground)
        self._ground = ground
        self._entries = {}
        self._gone = {}
        self._asks = {}

    @property
    def ground(self):
        """The gap on which it stands, or None."""
        return self._ground

    @property
    def entries(self):
        """The dict from the names of the entries to their rows."""
        return {name: self._entries[name] for name in sorted(self._entries)}

    @property
    def asks(self):
        """The dict from the names that are asked for to None or a length."""
        return {name: self._asks[name] for name in sorted(self._asks)}

    @property
    def gone(self):
        """The ascending tuple of the names that are gone."""
        return tuple(sorted(self._gone))

    def __eq__(self, other):
        return (isinstance(other, Outline) and self._ground == other._ground and self._entries == other._entries
                and self._gone == other._gone and self._asks == other._asks)

    def __len__(self):
        return len(self._entries)

    def behind(self, save, mark):
        """The outline with a further mark, of a save."""
        check_save_name(save)
        check_mark(mark)
        reason = self.reason_against(mark)
        if reason is not None:
            raise Refused(reason)
        return self.followed(save, mark)

    def is_fresh(self, name):
        """Whether the name is neither an entry nor gone."""
        return name not in self._entries and name not in self._gone

    def reason_against(self, mark):
        """The reason for which a checked mark cannot follow, None if it can."""
        word, name = mark[0], mark[1]
        if word == "put":
            return None
        if name in self._entries:
            if cells_in(self._entries[name]) != mark[-1]:
                return ("length", name)
        elif self._ground is None or name in self._gone:
            return ("gone", name)
        if word == "rename" and mark[2] in self._entries:
            return ("there", mark[2])
        return None

    def followed(self, save, mark):
        """The outline with a further checked mark that can follow."""
        outline = Outline(self._ground)
        outline._entries = dict(self._entries)
        outline._gone = dict(self._gone)
        outline._asks = dict(self._asks)
        outline._ask(mark)
        outline._do(save, mark)
        return outline

    def _ask(self, mark):
        """Asks for what a mark needs of fresh names."""
        word, name = mark[0], mark[1]
        if word == "put":
            return
        if self.is_fresh(name):
            self._asks[name] = mark[-1]
            self._entries[name] = whole_row(("below", name), mark[-1])
        if word == "rename" and self._ground is not None and self.is_fresh(mark[2]):
            self._asks[mark[2]] = None

    def _do(self, save, mark):
        """Changes the entries as the deed of a mark does."""
        word, name = mark[0], mark[1]
        row = self._entries.pop(name, ())
        fresh = whole_row(("new", save), mark_length(mark))
        self._gone.pop(name, None)
        if word == "put":
            self._entries[name] = fresh
        elif word == "patch":
            at, out = mark[2], mark[3]
            self._entries[name] = joined((part_of(row, 0, at), fresh, part_of(row, at + out, mark[-1])))
        else:
            self._gone[name] = True
        if word == "rename":
            self._entries[mark[2]] = row
            self._gone.pop(mark[2], None)

    def does_fit(self, tree):
        """Whether the tree, as that of the ground, fits."""
        check_tree(tree)
        return self._fits(tree)

    def _fits(self, tree):
        """Whether a checked tree fits."""
        return not tree if self._ground is None else does_fit_asks(tree, self._asks)

    def filled(self, tree, cells):
        """The tree with the cells of all rows, and with the fresh entries of the ground's tree."""
        check_tree(tree)
        if not are_save_cells(cells):
            raise InvalidCells("no dict from names of saves to tuples of cells")
        if not self._fits(tree):
            raise Refused(("fit",))
        wanted = wanted_cells(list(self._entries.values()))
        lacking = [save for save in sorted(wanted) if len(cells.get(save, ())) < wanted[save]]
        if lacking:
            raise Refused(("cells", lacking[0]))
        return self.with_cells(tree, cells)

    def with_cells(self, tree, cells):
        """The tree with what is told of all cells: of those of a tree that fits, and of those of the saves."""
        found = {name: row_cells(row, tree, cells) for name, row in self._entries.items()}
        for name in tree:
            if self.is_fresh(name):
                found[name] = tree[name]
        return sorted_tree(found)
