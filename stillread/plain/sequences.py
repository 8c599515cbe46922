"""Sequences in time of the names of saves, and the rings that forbid any."""


def hand_pairs(names):
    """The pairs of neighbours of one hand among ascending names."""
    return [(one, other) for one, other in zip(names, names[1:]) if one[0] == other[0]]


def followers(names, pairs):
    """The dict from each name to all names that have to be behind it by a pair."""
    behind = {name: [] for name in names}
    for one, other in pairs:
        behind[one].append(other)
    return behind


def sequence_of(names, pairs):
    """A list of the names, the first one of each pair ahead; without all behind a ring."""
    behind = followers(names, pairs)
    awaited = {name: 0 for name in names}
    for _, other in pairs:
        awaited[other] += 1
    ready = [name for name in names if awaited[name] == 0]
    sequence = []
    while ready:
        name = ready.pop()
        sequence.append(name)
        for other in behind[name]:
            awaited[other] -= 1
            if awaited[other] == 0:
                ready.append(other)
    return sequence


def ring_in(names, pairs, sequence):
    """A ring of those names that the sequence lacks, each ahead of the next one by a pair."""
    placed = {name: True for name in sequence}
    left = [name for name in names if name not in placed]
    # What is left waits for something that is left: so the way ahead never ends, and goes round.
    ahead = {other: one for one, other in pairs if one not in placed}
    name = left[0]
    steps = {}
    row = []
    while name not in steps:
        steps[name] = len(row)
        row.append(name)
        name = ahead[name]
    ring = row[steps[name]:]
    return tuple(ring[::-1])


def is_sequence(names, pairs, value):
    """Whether the value, a tuple of names, has each once, the first of each pair ahead."""
    if sorted(value) != list(names):
        return False
    steps = {name: step for step, name in enumerate(value)}
    return all([steps[one] < steps[other] for one, other in pairs])


def is_ring(pairs, value):
    """Whether each of these names is ahead of the next one, and the last one of the first."""
    known = {pair: True for pair in pairs}
    return all([is_ahead(one, other, known) for one, other in zip(value, value[1:] + value[:1])])


def is_ahead(one, other, known):
    """Whether the first name has to be ahead, by one of the known pairs or by the hand."""
    return (one, other) in known or (one[0] == other[0] and one[1] < other[1])
