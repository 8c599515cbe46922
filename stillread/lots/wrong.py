"""Lots with frames that lie: the polys and the new cells about which few of them do."""

from stillread.base.checks import are_indices, check_number, is_number
from stillread.base.names import PRIME, is_cell, is_cells
from stillread.base.polys import (
    check_poly, evaluated, interpolated, is_poly, kernel, multiplied, poly_divided, trimmed, with_roots,
)
from stillread.errors import InvalidCells, InvalidOperation, Refused, TooMany
from stillread.lots.columns import filling_row
from stillread.lots.gather import cells_by
from stillread.lots.spread import MAX_NEW, ROW, first_filling
from stillread.plain.histories import row_count

MOST_FRAMES = 16
MOST_ROWS = 8
MOST_WRONG = 8
MOST_ALL = 4


def check_sure(k, sure):
    """The errors for k and the sure indices."""
    check_number(k, 1, MOST_ROWS)
    if not are_indices(sure, k):
        raise InvalidOperation("no ascending tuple of indices below k")


def is_told(value):
    """Whether the value is a cell or None."""
    return value is None or is_cell(value)


def is_word(value, k):
    """Whether the value is a word of k to 16 entries."""
    return isinstance(value, tuple) and k <= len(value) <= MOST_FRAMES and all([is_told(cell) for cell in value])


def check_word(k, sure, word):
    """The errors for k, the sure indices and a word."""
    check_sure(k, sure)
    if not is_word(word, k):
        raise InvalidCells("no word of k to 16 cells or None")


def standing_in(sure, word):
    """The list of the standing indices of a word."""
    return [index for index, cell in enumerate(word) if cell is not None and index not in sure]


def does_serve(k, sure, poly):
    """Whether a poly of any length serves."""
    return len(poly) <= k and not any([evaluated(poly, index) for index in sure])


def faults_of(sure, word, poly):
    """The faults of a poly in a checked word."""
    return tuple([index for index in standing_in(sure, word) if evaluated(poly, index) != word[index]])


def is_near(k, sure, word, wrong, poly):
    """Whether a poly serves and has at most so many faults."""
    return does_serve(k, sure, poly) and len(faults_of(sure, word, poly)) <= wrong


def serves(k, sure, poly):
    """Whether the poly serves."""
    check_sure(k, sure)
    check_poly(poly)
    return does_serve(k, sure, poly)


def faults(k, sure, word, poly):
    """The standing indices at which the serving poly has another value than the word."""
    check_word(k, sure, word)
    check_poly(poly)
    if not does_serve(k, sure, poly):
        raise InvalidOperation("a poly that does not serve")
    return faults_of(sure, word, poly)


def most_wrong(k, sure, word):
    """The greatest number of faults that at most one serving poly has, None if there is none."""
    check_word(k, sure, word)
    return most_with(k, len(standing_in(sure, word)) + len(sure))


def most_with(k, many):
    """The greatest number e for which 2 e + k is at most `many`, None if there is none."""
    return (many - k) // 2 if many >= k else None


def check_wrong(k, sure, word, wrong):
    """The errors for a word and for so many faults that two serving polys could have them."""
    check_word(k, sure, word)
    check_number(wrong, 0, MOST_WRONG)
    refuse_wrong(k, len(standing_in(sure, word)) + len(sure), wrong)


def refuse_wrong(k, many, wrong):
    """Refused unless 2 wrong + k is at most `many`."""
    if 2 * wrong + k > many:
        raise Refused(("wrong", most_with(k, many)))


def near_poly(k, sure, word, wrong):
    """The serving poly with at most so many faults, None if there is none."""
    check_wrong(k, sure, word, wrong)
    return near_in(k, sure, word, wrong)


def near_in(k, sure, word, wrong):
    """The near poly of a checked word, None if there is none."""
    some, product, factor = key_of(k, sure, word, wrong)
    poly = quotient_of(product, factor)
    return poly if poly is not None and is_near(k, sure, word, wrong, poly) else None


def none_paper(k, sure, word, wrong):
    """A paper that no serving poly has at most so many faults, None if one has."""
    check_wrong(k, sure, word, wrong)
    return paper_in(k, sure, word, wrong)


def paper_in(k, sure, word, wrong):
    """The paper for a checked word, None if there is a near poly."""
    return key_of(k, sure, word, wrong) if near_in(k, sure, word, wrong) is None else None


def quotient_of(product, factor):
    """The poly that makes the product of the factor, None if there is none."""
    quotient, rest = poly_divided(product, factor)
    return quotient if rest == () else None


def powers_of(place, many):
    """The first powers of a place."""
    powers = [1]
    for _ in range(many - 1):
        powers.append(powers[-1] * place % PRIME)
    return powers[:many]


def key_of(k, sure, word, wrong):
    """The triple (some, q, l) that is a paper exactly if l does not make a near poly of q.

    It is a vector of a kernel: q is the poly of the sure indices times one with k + wrong - z
    unknown cells, l has wrong + 1 of them, and each of the k + 2 wrong - z indices is one row.
    """
    some = tuple(standing_in(sure, word)[:k + 2 * wrong - len(sure)])
    root = with_roots(sure)
    many = k + wrong - len(sure)
    rows = [key_row(root, index, word[index], many, wrong + 1) for index in some]
    vector = kernel(tuple(rows), many + wrong + 1)[0]
    return (some, multiplied(root, trimmed(vector[:many])), trimmed(vector[many:]))


def key_row(root, index, cell, many, more):
    """What makes q less cell times l, at the index, of the cells of q by the root, and of those of l."""
    factor = evaluated(root, index)
    ahead = [factor * power % PRIME for power in powers_of(index, many)]
    return tuple(ahead + [-cell * power % PRIME for power in powers_of(index, more)])


def is_none_paper(k, sure, word, wrong, value):
    """Whether the value is a paper that no serving poly has at most so many faults."""
    check_word(k, sure, word)
    check_number(wrong, 0, MOST_WRONG)
    return is_paper(k, sure, word, wrong, value)


def is_paper(k, sure, word, wrong, value):
    """The same for a checked word."""
    if not isinstance(value, tuple) or len(value) != 3 or not are_indices(value[0], len(word)):
        return False
    some, product, factor = value
    standing = standing_in(sure, word)
    if len(some) < k + 2 * wrong - len(sure) or not all([index in standing for index in some]):
        return False
    if not is_poly(product) or not is_poly(factor) or not is_key(k, sure, wrong, product, factor):
        return False
    if any([evaluated(product, index) != word[index] * evaluated(factor, index) % PRIME for index in some]):
        return False
    poly = quotient_of(product, factor)
    return poly is None or not is_near(k, sure, word, wrong, poly)


def is_key(k, sure, wrong, product, factor):
    """Whether two polys have the degrees of a paper, and the first one is 0 at the sure indices."""
    if factor == () or len(factor) > wrong + 1 or len(product) > k + wrong:
        return False
    return not any([evaluated(product, index) for index in sure])


def all_near(k, sure, word, wrong):
    """All serving polys with at most so many faults, ascending."""
    check_word(k, sure, word)
    check_number(wrong, 0, MOST_ALL)
    standing = standing_in(sure, word)
    lacking = k - len(sure)
    if lacking > 0 and len(standing) - wrong < lacking:
        raise TooMany(PRIME)
    # A near poly is wrong at no more than `wrong` of these, so it goes through `lacking` of them.
    some = standing[:lacking + wrong]
    roots = tuple([(index, 0) for index in sure])
    through = [interpolated(roots + points_in(word, chosen)) for chosen in choices(some, lacking)]
    return tuple(sorted({poly for poly in through if is_near(k, sure, word, wrong, poly)}))


def points_in(word, indices):
    """The points (index, cell) of a word at some indices."""
    return tuple([(index, word[index]) for index in indices])


def choices(row, many):
    """All lists of so many members of a row, in its sequence."""
    found = [[]]
    for left, index in enumerate(row):
        found = found + [chosen + [index] for chosen in found if len(chosen) < many]
        # What lacks more than the members that are left is no beginning of a choice.
        found = [chosen for chosen in found if many - len(chosen) < len(row) - left]
    return found


def check_many(k, sure, many, standing, wrong):
    """The errors for the standing indices of a word of so many entries."""
    check_sure(k, sure)
    check_number(many, k, MOST_FRAMES)
    if not are_indices(standing, many) or any([index in sure for index in standing]):
        raise InvalidOperation("no ascending tuple of indices that are not sure")
    check_number(wrong, 0, MOST_WRONG)


def two_near(k, sure, many, standing, wrong):
    """A word with just these standing indices and two near polys, None if there is none."""
    check_many(k, sure, many, standing, wrong)
    if k == len(sure) or 2 * wrong + k <= len(standing) + len(sure):
        return None
    shared = k - 1 - len(sure)
    other = with_roots(sure + standing[:shared])
    # The polys 0 and `other` are unlike at the others alone, which are at most twice `wrong`.
    unlike = standing[shared:]
    word = [0 if index in standing else None for index in range(many)]
    for index in unlike[:wrong]:
        word[index] = evaluated(other, index)
    return (tuple(word), (), other)


def is_two_near(k, sure, many, standing, wrong, value):
    """Whether the value is such a word with two near polys."""
    check_many(k, sure, many, standing, wrong)
    if not isinstance(value, tuple) or len(value) != 3:
        return False
    word, one, other = value
    if not is_word(word, many) or len(word) != many or not is_poly(one) or not is_poly(other) or one == other:
        return False
    if [index for index, cell in enumerate(word) if cell is not None] != list(standing):
        return False
    return is_near(k, sure, word, wrong, one) and is_near(k, sure, word, wrong, other)


def is_payload(value, length, index):
    """Whether the value is a payload of an index, 0 at filling."""
    return is_cells(value) and len(value) == ROW and not any(value[first_filling(length, index):])


def check_lot(length, payloads, wrong):
    """The errors for the payloads of a lot, and for so many of them that lie."""
    check_number(length, 0, MAX_NEW)
    k = row_count(length)
    if not isinstance(payloads, tuple) or not k <= len(payloads) <= MOST_FRAMES:
        raise InvalidCells("no tuple of k to 16 payloads")
    if not all([payload is None or is_payload(payload, length, index) for index, payload in enumerate(payloads)]):
        raise InvalidCells("no payloads")
    check_number(wrong, 0, MOST_WRONG)
    refuse_wrong(k, len(payloads) - list(payloads).count(None), wrong)


def column_of(length, payloads, column):
    """The triple (k, sure, word) of a column of a checked lot."""
    row = filling_row(length, column)
    word = tuple([None if payload is None else payload[column] for payload in payloads])
    return (row_count(length), () if row is None else (row,), word)


def columns_of(length, payloads):
    """The triples of all columns."""
    return [column_of(length, payloads, column) for column in range(ROW)]


def liars(columns, polys):
    """The ascending tuple of the indices at which some poly has a fault in its column."""
    found = [index for column, poly in zip(columns, polys) for index in faults_of(column[1], column[2], poly)]
    return tuple(sorted(set(found)))


def lot_cells(length, payloads, wrong):
    """The new cells about which at most so many frames lie, and which ones do; None if there are none."""
    check_lot(length, payloads, wrong)
    columns = columns_of(length, payloads)
    polys = [near_in(k, sure, word, wrong) for k, sure, word in columns]
    if None in polys:
        return None
    lying = liars(columns, polys)
    return (cells_by(polys, length), lying) if len(lying) <= wrong else None


def lot_paper(length, payloads, wrong):
    """A paper that there are no such new cells, None if there are some."""
    check_lot(length, payloads, wrong)
    columns = columns_of(length, payloads)
    polys = [near_in(k, sure, word, wrong) for k, sure, word in columns]
    if None in polys:
        column = polys.index(None)
        k, sure, word = columns[column]
        return ("column", column, paper_in(k, sure, word, wrong))
    return ("columns", tuple(polys)) if len(liars(columns, polys)) > wrong else None


def is_lot_paper(length, payloads, wrong, value):
    """Whether the value is such a paper."""
    check_lot(length, payloads, wrong)
    if not isinstance(value, tuple):
        return False
    columns = columns_of(length, payloads)
    if len(value) == 3 and value[0] == "column" and is_number(value[1], 0, ROW - 1):
        k, sure, word = columns[value[1]]
        return is_paper(k, sure, word, wrong, value[2])
    if len(value) != 2 or value[0] != "columns" or not are_polys(value[1]):
        return False
    if not all([is_near(column[0], column[1], column[2], wrong, poly) for column, poly in zip(columns, value[1])]):
        return False
    return len(liars(columns, value[1])) > wrong


def are_polys(value):
    """Whether the value is a tuple of six polys."""
    return isinstance(value, tuple) and len(value) == ROW and all([is_poly(poly) for poly in value])
