"""Orders of the frames of lots that bear the loss of stretches, and papers that none bears more."""

from stillread.base.checks import check_number, is_ascending, is_number
from stillread.errors import InvalidOperation, Refused, TooMany
from stillread.lots.gather import index_clash, lots_in, rows_of
from stillread.lots.spread import check_frames, marks_in
from stillread.text.cells import WINDOW_SIGNS
from stillread.text.frames import frames_text

MOST_LOTS = 12
MOST_FRAMES = 16


def are_lots(value):
    """Whether the value is a tuple of 1 to 12 pairs (n, k), any k of n frames being enough."""
    if not isinstance(value, tuple) or not 1 <= len(value) <= MOST_LOTS:
        return False
    return all([is_pair(lot) and is_number(lot[0], 1, MOST_FRAMES) and is_number(lot[1], 1, lot[0]) for lot in value])


def is_pair(value):
    """Whether the value is a tuple of two."""
    return isinstance(value, tuple) and len(value) == 2


def check_lots(lots):
    """InvalidOperation unless it is a tuple of lots."""
    if not are_lots(lots):
        raise InvalidOperation("no tuple of 1 to 12 lots")


def all_of(lots):
    """N, the number of all frames."""
    return sum([lot[0] for lot in lots])


def is_order(lots, value):
    """Whether the value tells each of some lots as often as it has frames."""
    if not isinstance(value, tuple) or len(value) != all_of(lots):
        return False
    if not all([is_number(index, 0, len(lots) - 1) for index in value]):
        return False
    return [value.count(index) for index in range(len(lots))] == [lot[0] for lot in lots]


def check_order(lots, order):
    """The errors for lots and an order of them."""
    check_lots(lots)
    if not is_order(lots, order):
        raise InvalidOperation("no order of the frames of these lots")


def strands(lots):
    """The triples (lot, strand, length) of all strands."""
    check_lots(lots)
    return strands_of(lots)


def strands_of(lots):
    """The same for checked lots."""
    return tuple([(index, strand, (n - strand + n - k - 1) // (n - k))
                  for index, (n, k) in enumerate(lots) for strand in range(n - k)])


def bare_lots(lots):
    """The list of the indices of those lots that can lose no frame."""
    return [index for index, (n, k) in enumerate(lots) if n == k]


def longest_strands(lots):
    """The greatest length of a strand, and the list of the strands that are so long; some lot can lose a frame."""
    rows = strands_of(lots)
    most = max([row[2] for row in rows])
    return (most, [row for row in rows if row[2] == most])


def greatest_window(lots):
    """The greatest number of frames that some order bears, 0 for none."""
    check_lots(lots)
    return window_of(lots)


def window_of(lots):
    """The same for checked lots."""
    if bare_lots(lots):
        return 0
    most, longest = longest_strands(lots)
    return (all_of(lots) - len(longest)) // (most - 1)


def spreading(lots):
    """An order that bears as many frames as can be."""
    check_lots(lots)
    return spread_order(lots)


def spread_order(lots):
    """The same for checked lots."""
    if bare_lots(lots):
        return tuple([index for index, lot in enumerate(lots) for _ in range(lot[0])])
    most, longest = longest_strands(lots)
    first = [told[0] for told in longest]
    rows = [list(first) for _ in range(most)]
    shorter = [told for told in strands_of(lots) if told[2] < most]
    at = 0
    # Longer ones first: so a strand that goes on from the last row to the first one has a row between.
    for lot, strand, length in sorted(shorter, key=lambda told: -told[2]):
        for _ in range(length):
            rows[at % (most - 1)].append(lot)
            at += 1
    return tuple([index for row in rows for index in row])


def weak_stretches(lots, order):
    """The list of the triples (many, begin, lot) of the least stretches that leave a lot too few, from each place."""
    found = []
    for index, (n, k) in enumerate(lots):
        places = [place for place, lot in enumerate(order) if lot == index]
        for first, last in zip(places, places[n - k:]):
            found.append((last + 1 - first, first, index))
    return found


def borne(lots, order):
    """How many frames the order bears, at most."""
    check_order(lots, order)
    return borne_by(lots, order)


def borne_by(lots, order):
    """The same for a checked order."""
    return min(weak_stretches(lots, order))[0] - 1


def weak_stretch(lots, order):
    """The triple (begin, end, lot) of the shortest stretch whose loss leaves a lot too few."""
    check_order(lots, order)
    many, begin, lot = min(weak_stretches(lots, order))
    return (begin, begin + many, lot)


def spread_answer(lots, many):
    """The pair of the true one of both claims about so many frames, and of a paper."""
    check_lots(lots)
    check_number(many, 1, all_of(lots))
    if many <= window_of(lots):
        return (("borne", lots, many), spread_order(lots))
    claim, bare = ("never borne", lots, many), bare_lots(lots)
    if bare:
        return (claim, ("bare", bare[0]))
    most, longest = longest_strands(lots)
    return (claim, ("strands", tuple([(lot, strand) for lot, strand, length in longest])))


def is_claim(value):
    """Whether the value is one of the claims, true or not."""
    if not isinstance(value, tuple) or len(value) != 3 or value[0] not in ("borne", "never borne"):
        return False
    return are_lots(value[1]) and is_number(value[2], 1, all_of(value[1]))


def is_spread_paper(spread, value):
    """Whether the value is a paper for a claim."""
    if not is_claim(spread):
        raise InvalidOperation("no claim about orders")
    word, lots, many = spread
    if word == "borne":
        return is_order(lots, value) and borne_by(lots, value) >= many
    if not is_pair(value):
        return False
    if value[0] == "bare":
        return is_number(value[1], 0, len(lots) - 1) and lots[value[1]][0] == lots[value[1]][1]
    return value[0] == "strands" and are_too_long(lots, many, value[1])


def are_too_long(lots, many, value):
    """Whether the value tells strands of one length that want more places than there are."""
    lengths = {(lot, strand): length for lot, strand, length in strands_of(lots)}
    if not isinstance(value, tuple) or not value or not all([is_strand(lots, row) for row in value]):
        return False
    length = lengths[value[0]]
    if not is_ascending(value) or any([lengths[row] != length for row in value]):
        return False
    return length >= 2 and (length - 1) * many + len(value) > all_of(lots)


def is_strand(lots, value):
    """Whether the value is a pair of a lot and of one of its strands."""
    if not is_pair(value) or not is_number(value[0], 0, len(lots) - 1):
        return False
    n, k = lots[value[0]]
    return is_number(value[1], 0, n - k - 1)


def cut_signs(many):
    """The greatest number of signs of a stretch that has signs of at most so many frames, wherever it lies."""
    check_number(many, 0, MOST_LOTS * MOST_FRAMES)
    return WINDOW_SIGNS * many - WINDOW_SIGNS + 1 if many else 0


def spread_text(frames):
    """The text of the frames, each once, in an order that bears as many as can be."""
    check_frames(frames)
    lots = lots_in(frames)
    if any([is_mixed(lot) for lot in lots.values()]):
        raise InvalidOperation("frames of one save with unlike marks or one index")
    if len(lots) > MOST_LOTS:
        raise TooMany(MOST_LOTS)
    few = [save for save, lot in lots.items() if len(lot) < rows_of(lot)]
    if few:
        raise Refused(("few", few[0]))
    return frames_text(ordered(list(lots.values()))) if lots else ""


def ordered(lots):
    """The bodies of some lots in an order that bears as many as can be."""
    left = [list(lot) for lot in lots]
    bodies = []
    for index in spread_order(tuple([(len(lot), rows_of(lot)) for lot in lots])):
        bodies.append(left[index].pop())
    return bodies


def is_mixed(lot):
    """Whether two unlike frames of one save have unlike marks or one index."""
    return index_clash(lot) is not None or any([marks_in(body) != marks_in(lot[0]) for body in lot])
