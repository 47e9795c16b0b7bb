"""Sets of states as the bits of an integer, and where walks lead from all states of a set at once."""

LABELS = (0, 1, 2, 3)


def all_bits(many):
    """Return the set of all of so many states."""
    return (1 << many) - 1


def by_label(edges):
    """Return, for each label, the list of the pairs (start, end) of its edges."""
    return [[(edge[0], edge[1]) for edge in edges if edge[2] == label] for label in LABELS]


def follow(arrows, here):
    """Return the set of the ends of those arrows that start in the set `here`."""
    there = 0
    for start, end in arrows:
        if here >> start & 1:
            there |= 1 << end
    return there
