"""Trees, deeds and histories as the tests draw them, and plain ones to compare with."""

NAMES = ("a", "b", "c", "zz", "abcd")


def plain_deed(tree, deed):
    """The tree behind a deed as lists, or the reason for which it is refused."""
    tree = {name: list(cells) for name, cells in tree.items()}
    word, name, *told = deed
    if word != "put" and name not in tree:
        return None, ("gone", name)
    if word == "put":
        tree[name] = list(told[0])
    if word == "drop":
        del tree[name]
    if word == "rename":
        if told[0] in tree:
            return None, ("there", told[0])
        tree[told[0]] = tree.pop(name)
    if word == "patch":
        at, out, cells = told
        if at + out > len(tree[name]):
            return None, ("place", name)
        tree[name][at:at + out] = list(cells)
        if len(tree[name]) > 996:
            return None, ("long", name)
    return {name: tuple(tree[name]) for name in sorted(tree)}, None


def drawn_cells(draw, most):
    return tuple(draw.randrange(997) for _ in range(draw.choice((0, 1, 2, draw.randint(0, most)))))


def drawn_deed(draw, most=48):
    """Any deed, that can be refused."""
    word, name = draw.choice(("put", "put", "patch", "patch", "drop", "rename")), draw.choice(NAMES)
    if word == "put":
        return (word, name, drawn_cells(draw, most))
    if word == "patch":
        return (word, name, draw.randint(0, 4), draw.randint(0, 3), drawn_cells(draw, most))
    if word == "drop":
        return (word, name)
    return (word, name, draw.choice([other for other in NAMES if other != name]))


def drawn_tree(draw):
    return {name: drawn_cells(draw, 6) for name in draw.sample(NAMES, draw.randint(0, len(NAMES)))}


def plain_rows(deed):
    cells = deed[-1] if deed[0] in ("put", "patch") else ()
    return max(1, -(-len(cells) // 6))


def drawn_history(draw, many):
    """A history with branches and several hands, and the dict of its versions."""
    saves, trees, last = [], {}, {}
    for _ in range(draw.randint(0, many)):
        hand = draw.choice((1, 2, 996))
        base = draw.choice([None] + list(trees) * 2)
        deed = drawn_deed(draw, 20)
        tree, reason = plain_deed(trees.get(base, {}), deed)
        number = last.get(hand, 0) + draw.choice((1, 1, 1, 2, 40))
        if reason is None and number <= 996:
            last[hand] = number
            trees[(hand, number)] = tree
            saves.append((hand, number, base, deed, draw.randint(plain_rows(deed), 16)))
    return tuple(saves), trees
