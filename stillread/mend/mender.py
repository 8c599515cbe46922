"""A mender: it writes behind a text the frames that those which stand tell."""

from stillread.errors import TooMany
from stillread.keep.archive import standing
from stillread.lots.gather import columns_told, lots_in, payloads_of, rows_of
from stillread.lots.spread import check_frames
from stillread.read.constraints import check_agreeing
from stillread.text.cells import MOST_SIGNS, WINDOW_SIGNS
from stillread.text.frames import frames_text


def checked_lots(frames):
    """The lots of frames by their saves, with the errors for the frames."""
    check_frames(frames)
    check_agreeing(frames)
    return lots_in(frames)


def told_frames(frames):
    """The ascending tuple of the bodies of all frames that are told and are none of these."""
    return frames_beside(checked_lots(frames))


def frames_beside(lots):
    """The bodies of all frames that lots of frames that agree tell beside their own."""
    return tuple(sorted([body for lot in lots.values() for body in bodies_beside(lot)]))


def bodies_beside(lot):
    """The list of the bodies that a lot without a clash tells beside its own."""
    if not is_telling(lot):
        return []
    body, there = lot[0], payloads_of(lot)
    columns = columns_told(lot, body[4])
    return [body[:3] + (index,) + body[4:14] + tuple([column[index] for column in columns])
            for index in range(body[4]) if index not in there]


def is_telling(lot):
    """Whether a lot without a clash has the k frames that tell all others."""
    return len(lot) >= rows_of(lot)


def is_closed(frames):
    """Whether no further frames are told."""
    return told_frames(frames) == ()


def lacks(frames):
    """The dict from the saves with frames to the indices of those that are neither there nor told."""
    return {save: lacking(lot) for save, lot in checked_lots(frames).items()}


def lacking(lot):
    """The ascending tuple of the indices of the frames that a lot neither has nor tells."""
    there = payloads_of(lot)
    return () if is_telling(lot) else tuple([index for index in range(lot[0][4]) if index not in there])


def mended(text):
    """The text with all frames behind it that are told and do not stand."""
    archives = {}
    for body in standing(text):
        archives.setdefault(body[0], []).append(body)
    fresh = []
    for bodies in archives.values():
        check_agreeing(bodies)
        fresh.extend(frames_beside(lots_in(bodies)))
    if len(text) + WINDOW_SIGNS * len(fresh) > MOST_SIGNS:
        raise TooMany(MOST_SIGNS)
    return text + frames_text(fresh)


def clean(text):
    """The frames that stand in a text, each once, bodies ascending."""
    return frames_text(standing(text))
