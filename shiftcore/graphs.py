"""Arrows between numbered states, as lists of pairs (start, end): parts, and how closed walks turn."""

from math import gcd


def reached(many, arrows):
    """Return for each state, as bits, the set of states to which walks of at least one arrow lead."""
    bits = [0] * many
    for start, end in arrows:
        bits[start] |= 1 << end
    for middle in range(many):
        for start in range(many):
            if bits[start] >> middle & 1:
                bits[start] |= bits[middle]
    return bits


def closed_parts(many, arrows):
    """Return the ascending tuple of the ascending tuples of states that closed walks connect."""
    bits = reached(many, arrows)
    found = []
    for state in range(many):
        part = [k for k in range(many) if bits[state] >> k & 1 and bits[k] >> state & 1]
        # Each part is found once for each of its states; its first state is to name it.
        if part and part[0] == state:
            found.append(tuple(part))
    return tuple(found)


def is_one_part(many, arrows):
    """Return whether there are states, and walks of at least one arrow lead from each state to each state."""
    return closed_parts(many, arrows) == (tuple(range(many)),)


def distances(many, arrows):
    """Return the least numbers of arrows from state 0 to all states, which it must reach."""
    nexts = [[] for _ in range(many)]
    for start, end in arrows:
        nexts[start].append(end)
    far = {0: 0}
    queue = [0]
    at = 0
    while at < len(queue):
        start = queue[at]
        for end in nexts[start]:
            if end not in far:
                far[end] = far[start] + 1
                queue.append(end)
        at += 1
    return [far[state] for state in range(many)]


def common_length(many, arrows):
    """Return the greatest common divisor of the lengths of all closed walks, all states in one part."""
    far = distances(many, arrows)
    divisor = 0
    # Around a closed walk the distances cancel; so these differences divide what its length divides.
    for start, end in arrows:
        divisor = gcd(divisor, far[start] + 1 - far[end])
    return divisor


def longest_walk(nexts):
    """Return the number of nodes on the longest walk, or None if walks have no end; each node has its next ones."""
    waiting = {node: 0 for node in nexts}
    for node in nexts:
        for there in nexts[node]:
            waiting[there] += 1
    ready = [node for node in nexts if waiting[node] == 0]
    many = 0
    left = len(nexts)
    # Nodes are taken away layer by layer; those on or behind a closed walk stay.
    while ready:
        many += 1
        left -= len(ready)
        ready = _next_layer(ready, nexts, waiting)
    return many if left == 0 else None


def _next_layer(ready, nexts, waiting):
    """Return the nodes that wait for no other node any more once those that are ready are taken away."""
    layer = []
    for node in ready:
        for there in nexts[node]:
            waiting[there] -= 1
            if waiting[there] == 0:
                layer.append(there)
    return layer


def is_smallest(walk):
    """Return whether a closed walk is smaller than it is from all other starting places."""
    return all(walk < walk[at:] + walk[:at] for at in range(1, len(walk)))
