"""Sets of states as the bits of an integer, and where walks lead from all states of a set at once."""

from shiftcore.errors import TooMany

LABELS = (0, 1, 2, 3)


def all_bits(many):
    """Return the set of all of so many states."""
    return (1 << many) - 1


def states_in(here):
    """Return the ascending tuple of the states of a set."""
    return tuple([state for state in range(here.bit_length()) if here >> state & 1])


def many_in(here):
    """Return the number of states of a set."""
    return len(states_in(here))


def by_label(edges):
    """Return, for each label, the list of the pairs (start, end) of its edges."""
    return [[(edge[0], edge[1]) for edge in edges if edge[2] == label] for label in LABELS]


def follow(arrows, here):
    """Return the set of the ends of those arrows that start in the set `here`."""
    there = 0
    for start, end in arrows:
        if here >> start & 1:
            there |= 1 << end
    return there


def sets_met(arrows, first, enough, most):
    """Return the sets to which words lead from a set, the empty one left out, each with its first word.

    Words are tried the shorter, then the smaller ones first, until a set of at most `enough` states is met; so the
    sets stand in the order of their words.
    """
    met = {first: ()}
    queue = [first]
    at = 0
    while at < len(queue) and many_in(queue[-1]) > enough:
        for label, pairs in enumerate(arrows):
            there = follow(pairs, queue[at])
            if there == 0 or there in met:
                continue
            if len(met) == most:
                raise TooMany(most)
            met[there] = (*met[queue[at]], label)
            queue.append(there)
            if many_in(there) <= enough:
                break
        at += 1
    return met


def least_set(met):
    """Return the first one of those sets that have the fewest states."""
    return min(list(met), key=many_in)
