"""What frames that agree tell: the reach of names, answers with papers, and readings."""

from stillread.base.names import check_name
from stillread.lots.gather import cells_told, lots_in
from stillread.lots.spread import check_frames
from stillread.paper.checker import check_question
from stillread.plain.histories import check_save_name
from stillread.read.constraints import tree_for
from stillread.read.views import View, answer_by, check_asked, check_named, trails_ahead, view_of


def reach(frames, save, name):
    """The ascending tuple of all saves to which a trail for the name leads from a save."""
    check_frames(frames)
    check_save_name(save)
    check_name(name)
    view = View(frames)
    check_named(view, save)
    return tuple(sorted(trails_ahead(view, save, name)))


def answer_of(frames, question):
    """The pair of the answer to a question and of a paper for it, None if it is open."""
    check_frames(frames)
    check_question(question)
    return asked(View(frames), question)


def asked(view, question):
    """The same for a view and a checked question, UnknownName unless it is about a named save."""
    check_named(view, question[1])
    return answer_by(view, question)


class Reading:
    """What some frames that agree tell. It never changes."""

    def __init__(self, frames):
        self._view = view_of(frames)
        self._frames = tuple(sorted(set(frames)))
        self._cells = {save: cells_told(lot) for save, lot in lots_in(frames).items()}

    @property
    def frames(self):
        """The ascending tuple of the frames, each once."""
        return self._frames

    @property
    def saves(self):
        """The ascending tuple of all named saves."""
        return tuple(sorted(self._view.outlines))

    @property
    def gaps(self):
        """The ascending tuple of the gaps."""
        return tuple(self._view.said)

    def answer(self, question):
        """The pair of the answer to a question and of a paper for it, None if it is open."""
        check_question(question)
        return asked(self._view, question)

    def known_entries(self, save):
        """The dict from the names that are told to be there to their cells, None for each that is open."""
        check_asked(self._view, save)
        return self._entries(save)

    def _entries(self, save):
        """The same for a named save."""
        outline = self._view.outlines[save]
        below = tree_for(self._view.said.get(outline.ground, {}), None)
        return outline.with_cells(below, self._cells)

    def is_rooted(self, save):
        """Whether of each name something is told."""
        check_asked(self._view, save)
        return self._is_rooted(save)

    def _is_rooted(self, save):
        """The same for a named save."""
        # There are more names than frames can speak of, so that some are open above each gap.
        return self._view.outlines[save].ground is None

    def is_whole(self, save):
        """Whether each question about a save is told."""
        check_asked(self._view, save)
        return self._is_rooted(save) and is_told(self._entries(save))

    def open_cells(self, save):
        """The ascending tuple of the pairs (name, at) of all open cells of the entries told to be there."""
        entries = self.known_entries(save)
        return tuple([(name, at) for name, cells in entries.items() for at, cell in enumerate(cells) if cell is None])

    def versions(self):
        """The dict from all whole saves to their versions."""
        trees = {save: self._entries(save) for save in self.saves if self._is_rooted(save)}
        return {save: tree for save, tree in trees.items() if is_told(tree)}

    def __eq__(self, other):
        return isinstance(other, Reading) and self._frames == other._frames

    def __len__(self):
        return len(self._view.outlines)

    def __str__(self):
        return f"{len(self._frames)} frames, {len(self._view.outlines)} saves, {len(self._view.said)} gaps"


def is_told(tree):
    """Whether no cell of known entries is open."""
    return not any([None in cells for cells in tree.values()])
