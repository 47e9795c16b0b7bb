"""Arrows between numbered states, as lists of pairs (start, end): parts, and how closed walks turn."""

from math import gcd


def reached(many, arrows):
    """Return for each state, as bits, the set of states to which walks of at least one arrow lead."""
    bits = [0] * many
    for start, end in arrows:
        bits[start] |= 1 << end
    for middle in range(many):
        for start in range(many):
            if bits[start] >> middle & 1:
                bits[start] |= bits[middle]
    return bits


def closed_parts(many, arrows):
    """Return the ascending tuple of the ascending tuples of states that closed walks connect."""
    bits = reached(many, arrows)
    found = []
    for state in range(many):
        part = [k for k in range(many) if bits[state] >> k & 1 and bits[k] >> state & 1]
        # Each part is found once for each of its states; its first state is to name it.
        if part and part[0] == state:
            found.append(tuple(part))
    return tuple(found)


def distances(many, arrows):
    """Return the least numbers of arrows from state 0 to all states, which it must reach."""
    nexts = [[] for _ in range(many)]
    for start, end in arrows:
        nexts[start].append(end)
    far = {0: 0}
    queue = [0]
    at = 0
    while at < len(queue):
        start = queue[at]
        for end in nexts[start]:
            if end not in far:
                far[end] = far[start] + 1
                queue.append(end)
        at += 1
    return [far[state] for state in range(many)]


def common_length(many, arrows):
    """Return the greatest common divisor of the lengths of all closed walks, all states in one part."""
    far = distances(many, arrows)
    divisor = 0
    # Around a closed walk the distances cancel; so these differences divide what its length divides.
    for start, end in arrows:
        divisor = gcd(divisor, far[start] + 1 - far[end])
    return divisor
