"""Bodies, payloads and saves as the tests draw them, and plain ones to compare with."""

from tests import wrong

KINDS = ("put", "patch", "drop", "rename")
LETTERS = "-abcdefghijklmnopqrstuvwxyz"


def plain_k(length):
    k = 1
    while 6 * k < length:
        k += 1
    return k


def next_value(column):
    """What stands behind the values of a poly of least degree at 0, 1, 2, .., by their differences."""
    rows = [list(column)]
    while len(rows[-1]) > 1:
        rows.append([y - x for x, y in zip(rows[-1], rows[-1][1:])])
    return sum(row[-1] for row in rows) % 997


def plain_payloads(cells, n):
    """The payloads, each column going on by its last k values."""
    k = plain_k(len(cells))
    filled = list(cells) + [0] * (6 * k - len(cells))
    rows = [tuple(filled[6 * i:6 * i + 6]) for i in range(k)]
    while len(rows) < n:
        rows.append(tuple(next_value([row[c] for row in rows[-k:]]) for c in range(6)))
    return tuple(rows)


def plain_name(first, second):
    """The name with these two cells, `None` if there is none."""
    name = "".join(LETTERS[at] if at < 27 else "?" for at in (
        first // 27, first % 27, second // 27, second % 27)).rstrip("-")
    return name if wrong.is_name(name) else None


def plain_is_body(value):
    """What the document says of the 20 cells of a body, one after the other."""
    if not wrong.is_cells(value) or len(value) != 20:
        return False
    archive, hand, number, index, n, base_hand, base, kind, f, g, at, out, length, ahead = value[:14]
    payload = value[14:]
    if not (archive and hand and number) or bool(base_hand) != bool(base):
        return False
    if base and base_hand == hand and base >= number:
        return False
    if kind > 3 or (kind > 0 and not base) or plain_name(f, g) is None or length > 48:
        return False
    k = plain_k(length)
    if not k <= n <= 16 or index >= n:
        return False
    fits = {
        "put": (at, out, ahead) == (0, 0, 0),
        "patch": at + out <= ahead and ahead - out + length <= 996,
        "drop": (at, out, length) == (0, 0, 0),
        "rename": plain_name(at, out) not in (None, plain_name(f, g)) and length == 0,
    }
    if not fits[KINDS[kind]]:
        return False
    filling = [c for c in range(6) if (index < k and 6 * index + c >= length) or (k == 1 and c >= length)]
    return all(payload[c] == 0 for c in filling)


def drawn_name(draw):
    return "".join(draw.choice("abyz") for _ in range(draw.randint(1, 4)))


def drawn_cells(draw, length):
    return tuple(draw.choice((0, 996, draw.randrange(997))) for _ in range(length))


def drawn_length(draw):
    return draw.choice((0, 1, 5, 6, 7, 12, 13, 41, 42, 43, 47, 48, draw.randint(0, 48)))


def drawn_deed(draw, word, length):
    """A deed with so many new cells, and a length that the entry can have ahead of it."""
    name = drawn_name(draw)
    if word == "put":
        return (word, name, drawn_cells(draw, length)), 0
    ahead = draw.choice((0, 1, 500, 996, draw.randint(0, 996)))
    if word == "patch":
        at = draw.randint(0, ahead)
        out = draw.randint(0, ahead - at)
        length = min(length, 996 - ahead + out)
        return (word, name, at, out, drawn_cells(draw, length)), ahead
    if word == "drop":
        return (word, name), ahead
    other = drawn_name(draw)
    return (word, name, other if other != name else name[:1] + "q"), ahead


def drawn_save(draw):
    """A save of any form, and the length of its entry ahead."""
    word = draw.choice(KINDS + ("put", "patch"))
    hand, number = draw.choice((1, 2, 996)), draw.choice((2, 3, 996))
    base = draw.choice(((hand, number - 1), (hand, 1), (5, 996), (996, 1)))
    base = base if base != (hand, number) else (7, 7)
    if word == "put" and draw.random() < 0.5:
        base = None
    deed, ahead = drawn_deed(draw, word, drawn_length(draw))
    k = plain_k(len(deed[-1]) if word in ("put", "patch") else 0)
    return (hand, number, base, deed, draw.choice((k, 16, draw.randint(k, 16)))), ahead


def plain_mark(deed, ahead):
    if deed[0] == "put":
        return ("put", deed[1], len(deed[2]))
    if deed[0] == "patch":
        return ("patch", deed[1], deed[2], deed[3], len(deed[4]), ahead)
    return deed + (ahead,)


def history_with(save, ahead):
    """A history with this save, whose base has the entry of this length."""
    hand, number, base, deed, n = save
    if base is None:
        return (save,)
    fresh = [one for one in (3, 4, 6) if one not in (hand, base[0])][0]
    told, last, at = [(fresh, 1, None, ("put", deed[1], ()), 1)], (fresh, 1), 0
    while at < ahead:
        many = min(48, ahead - at)
        told.append((fresh, last[1] + 1, last, ("patch", deed[1], at, 0, (1,) * many), 16))
        last, at = (fresh, last[1] + 1), at + many
    return tuple(told) + ((base[0], base[1], last, ("put", "qqqq", ()), 1), save)


def drawn_lot(draw, frames, most=None):
    """Some of the frames of a save, ascending, at least one."""
    many = draw.randint(1, min(len(frames), most or len(frames)))
    return tuple(sorted(draw.sample(frames, many)))
