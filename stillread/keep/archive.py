"""Archives: texts that grow by the frames of saves, and what is known in them."""

from stillread.base.checks import check_number
from stillread.errors import InvalidSave, Refused, TooMany, UnknownName
from stillread.lots.gather import cells_told, lots_in
from stillread.lots.spread import base_in, is_body, mark_in, save_bodies
from stillread.plain.histories import MOST_FRAMES, MOST_HAND, check_save_name, is_save_name, rows_for
from stillread.plain.sequences import sequence_of
from stillread.plain.trees import check_deed, do_deed, put_cells, refusal_of, sorted_tree
from stillread.read.constraints import check_agreeing
from stillread.read.marks import deed_made
from stillread.text.cells import WINDOW_SIGNS, check_text
from stillread.text.frames import bodies_in, frames_text

MOST_SAVES = 60
MOST_TEXT = 60000


def standing(text):
    """The ascending tuple of the bodies of all frames that stand in a text, InvalidText if it is none."""
    return tuple([body for body in bodies_in(text) if is_body(body)])


def standing_frames(text, archive):
    """The same of the frames of one archive."""
    return tuple([body for body in standing(text) if body[0] == archive])


def known_in(frames):
    """The dict from the names of the known saves among frames that agree to these saves, bases ahead."""
    lots = lots_in(frames)
    bases = {save: base_in(lot[0]) for save, lot in lots.items()}
    # Frames that agree have no ring, so that this has all saves.
    pairs = [(base, save) for save, base in bases.items() if base in lots]
    known = {}
    for save in sequence_of(list(lots), pairs):
        lot, base = lots[save], bases[save]
        cells = cells_told(lot)
        if None not in cells and (base is None or base in known):
            known[save] = save + (base, deed_made(mark_in(lot[0]), cells), lot[0][4])
    return known


def known_saves(text, archive):
    """The names of the known saves among the frames of the archive that stand in the text."""
    check_text(text)
    check_number(archive, 1, MOST_HAND)
    frames = standing_frames(text, archive)
    check_agreeing(frames)
    return tuple(sorted(known_in(frames)))


def does_name(body, hand):
    """Whether a frame names the hand, as that of its save or of the base."""
    return hand in (body[1], body[5])


def next_name(saves, left, told):
    """The least of the names left whose base is told, or none, and ahead of which its hand has none left."""
    hands = {}
    for name in left:
        base = saves[name][2]
        if name[0] not in hands and (base is None or base in told):
            return name
        hands[name[0]] = True
    # Saves of frames that agree have a sequence in time, so that one can always be next.
    return None


class Archive:
    """An archive that one hand writes; its text only grows."""

    def __init__(self, archive, hand):
        check_number(archive, 1, MOST_HAND)
        check_number(hand, 1, MOST_HAND)
        self._archive = archive
        self._hand = hand
        self._text = ""
        self._made = 0
        self._frames = ()
        self._saves = {}
        self._trees = {}

    @classmethod
    def continued(cls, text, archive, hand):
        """One whose text is this one."""
        check_text(text)
        check_number(archive, 1, MOST_HAND)
        check_number(hand, 1, MOST_HAND)
        frames = standing_frames(text, archive)
        check_agreeing(frames)
        if any([does_name(body, hand) for body in frames]):
            raise Refused(("hand", hand))
        going_on = cls(archive, hand)
        going_on._write(text, frames)
        return going_on

    @property
    def archive(self):
        """The number of the archive."""
        return self._archive

    @property
    def hand(self):
        """The hand that writes it."""
        return self._hand

    @property
    def text(self):
        """The text."""
        return self._text

    @property
    def names(self):
        """The ascending tuple of the names of all known saves."""
        return tuple(sorted(self._saves))

    @property
    def heads(self):
        """The ascending tuple of the names of the known saves that are the base of no known one."""
        bases = {save[2]: True for save in self._saves.values()}
        return tuple([name for name in sorted(self._saves) if name not in bases])

    @property
    def made(self):
        """How many saves this object made."""
        return self._made

    def add(self, deed, *, base=None, more=0):
        """Makes the next save of the hand, and returns its name."""
        check_deed(deed)
        if base is not None and not is_save_name(base):
            raise InvalidSave("no name of a save")
        rows = rows_for(deed)
        check_number(more, 0, MOST_FRAMES - rows)
        if base is not None and base not in self._saves:
            raise UnknownName(base)
        tree = {} if base is None else self._trees[base]
        reason = refusal_of(tree, deed)
        if reason is not None:
            raise Refused(reason)
        if self._made >= MOST_SAVES:
            raise TooMany(MOST_SAVES)
        self._check_room(rows + more)
        self._made += 1
        save = (self._hand, self._made, base, deed, rows + more)
        ahead = 0 if deed[0] == "put" else len(tree[deed[1]])
        bodies = save_bodies(self._archive, save, ahead)
        self._write(frames_text(bodies), bodies)
        return save[:2]

    def hear(self, text):
        """Puts the frames of a text that do not stand yet behind the own one, and returns what became known."""
        check_text(text)
        own = {body: True for body in self._frames}
        fresh = tuple([body for body in standing_frames(text, self._archive) if body not in own])
        if any([self._is_foreign(body) for body in fresh]):
            raise Refused(("hand", self._hand))
        check_agreeing(self._frames + fresh)
        self._check_room(len(fresh))
        ahead = self.names
        self._write(frames_text(fresh), fresh)
        return tuple([name for name in self.names if name not in ahead])

    def _is_foreign(self, body):
        """Whether a frame that is not the own one names saves of the own hand that this object did not make."""
        return body[1] == self._hand or (body[5] == self._hand and body[6] > self._made)

    def _check_room(self, many):
        """TooMany if the text would be too long with so many further frames."""
        if len(self._text) + WINDOW_SIGNS * many > MOST_TEXT:
            raise TooMany(MOST_TEXT)

    def _write(self, text, frames):
        """Puts the text of frames that agree with the own ones behind, and learns what is known."""
        self._text = self._text + text
        self._frames = self._frames + frames
        self._saves = known_in(self._frames)
        for name, save in self._saves.items():
            if name not in self._trees:
                tree = {} if save[2] is None else dict(self._trees[save[2]])
                do_deed(tree, save[3], put_cells(save[3]))
                self._trees[name] = tree

    def _check_known(self, save):
        """The errors for the name of a known save."""
        check_save_name(save)
        if save not in self._saves:
            raise UnknownName(save)

    def version(self, save):
        """The tree of a known save."""
        self._check_known(save)
        return sorted_tree(self._trees[save])

    def known(self, save):
        """The known save itself."""
        self._check_known(save)
        return self._saves[save]

    def history(self):
        """The known saves as a history, the least name that can be next always next."""
        told = {}
        left = sorted(self._saves)
        while left:
            name = next_name(self._saves, left, told)
            told[name] = True
            left.remove(name)
        return tuple([self._saves[name] for name in told])

    def __contains__(self, value):
        return is_save_name(value) and value in self._saves

    def __len__(self):
        return len(self._saves)

    def __str__(self):
        return f"archive {self._archive} of hand {self._hand}: {len(self._saves)} saves known"
