"""Plain second ways to the answers, and the webs that the tests ask about."""

from itertools import product
from random import Random

EMPTY = (0, ())
POINT = (1, ((0, 0, 0),))
FULL = (1, ((0, 0, 0), (0, 0, 1)))
FULL_THREE = (1, ((0, 0, 0), (0, 0, 1), (0, 0, 2)))
FULL_FOUR = (1, ((0, 0, 0), (0, 0, 1), (0, 0, 2), (0, 0, 3)))
GOLDEN = (2, ((0, 0, 0), (0, 1, 1), (1, 0, 0)))
EVEN = (2, ((0, 0, 1), (0, 1, 0), (1, 0, 0)))
RING = (4, ((0, 1, 0), (1, 2, 0), (2, 3, 0), (3, 0, 0)))
SWAP = (2, ((0, 1, 0), (1, 0, 1)))
DEAD = (3, ((0, 1, 0), (1, 2, 1)))
TAILS = (5, ((0, 1, 2), (1, 1, 0), (1, 2, 1), (2, 1, 0), (2, 3, 3), (4, 3, 0)))
TWO_LOOPS = (3, ((0, 0, 0), (0, 1, 1), (1, 2, 2), (2, 2, 0)))
APART = (2, ((0, 0, 0), (1, 1, 1)))
BLUR = (3, ((0, 1, 0), (0, 2, 0), (1, 0, 1), (2, 0, 1), (2, 2, 0)))
CHARGED = (3, ((0, 1, 0), (1, 0, 1), (1, 2, 0), (2, 1, 1)))


def ring(many, label=0, last=0):
    """Return a web of one closed walk, its last edge with a label of its own."""
    edges = [(k, (k + 1) % many, last if k == many - 1 else label) for k in range(many)]
    return many, tuple(sorted(edges))


SPECIAL = [EMPTY, (1, ()), (4, ()), DEAD, POINT, FULL, FULL_THREE, FULL_FOUR, GOLDEN, EVEN, RING, SWAP, TAILS,
           TWO_LOOPS, APART, BLUR, CHARGED, ring(6, 0, 1), (3, ((0, 0, 3), (2, 2, 1)))]


def random_webs(seed, many, states, labels, density):
    """Return so many webs with 1 to `states` states; the same ones for the same seed."""
    rng = Random(seed)
    found = []
    for _ in range(many):
        size = rng.randint(1, states)
        edges = {(rng.randrange(size), rng.randrange(size), rng.randrange(labels))
                 for _ in range(rng.randint(1, density * size))}
        found.append((size, tuple(sorted(edges))[:100]))
    return found


def sparse_webs(seed, many, states, labels, chance):
    """Return so many webs with `states` states, each label with `chance` percent at each state, seldom twice."""
    rng = Random(seed)
    found = []
    for _ in range(many):
        edges = {(state, rng.randrange(states), label) for state in range(states) for label in range(labels)
                 if rng.randrange(100) < chance}
        if rng.randrange(3) == 0:
            edges.add((rng.randrange(states), rng.randrange(states), rng.randrange(labels)))
        found.append((states, tuple(sorted(edges))))
    return found


def core(web):
    """Return the states and edges, under their old numbers, that have endless walks before and behind them."""
    many, edges = web
    onward = set(range(many))
    back = set(range(many))
    for _ in range(many):
        onward = {start for start, end, _ in edges if end in onward}
        back = {end for start, end, _ in edges if start in back}
    return onward & back, [edge for edge in edges if edge[0] in back and edge[1] in onward]


def walks(web, length):
    """Return all walks of a web with `length` edges, at least one, as tuples of edges."""
    found = [(edge,) for edge in web[1]]
    for _ in range(length - 1):
        found = [walk + (edge,) for walk in found for edge in web[1] if walk[-1][1] == edge[0]]
    return found


def core_words(web, length):
    """Return the set of the words of a length that are labels of walks in the essential web."""
    states, edges = core(web)
    here = {((), state) for state in states}
    for _ in range(length):
        here = {(word + (edge[2],), edge[1]) for word, state in here for edge in edges if edge[0] == state}
    return {word for word, _ in here}


def is_read(web, word):
    """Return whether a word of any length is read."""
    states, edges = core(web)
    for label in word:
        states = {end for start, end, mark in edges if start in states and mark == label}
    return bool(states)


def all_words(labels, length):
    """Return all words of a length over the labels 0, 1, .., in ascending order."""
    return list(product(range(labels), repeat=length))


def table_reads(rows, word):
    """Return whether no None is met from row 0 on."""
    state = 0 if rows else None
    for label in word:
        if state is None:
            return False
        state = rows[state][label]
    return state is not None


def same_shift_webs(web):
    """Return other webs with the shift of a web: renamed, with dead ends, twice, and with state 0 split in two."""
    many, edges = web
    renamed = (many, tuple(sorted((many - 1 - s, many - 1 - e, a) for s, e, a in edges)))
    found = [renamed]
    if 1 <= many <= 30:
        ends = {(0, many, 2), (many + 1, 0, 3), (many + 1, many, 1)}
        found.append((many + 2, tuple(sorted(set(edges) | ends))))
    if 2 * many <= 32 and 2 * len(edges) <= 100:
        found.append((2 * many, edges + tuple((s + many, e + many, a) for s, e, a in edges)))
    if 1 <= many <= 31:
        twin = {(x, y, a) for s, e, a in edges for x in ({s, many} if s == 0 else {s})
                for y in ({e, many} if e == 0 else {e})}
        if len(twin) <= 100:
            found.append((many + 1, tuple(sorted(twin))))
    return found
