"""Walks in essential webs, and the webs whose codes the tests ask about."""

from functools import cache

from shiftcore.webs import essential
from tests import limits, plain

TURN = (2, ((0, 1, 0), (0, 1, 1), (1, 0, 0), (1, 0, 1)))
LATE = (3, ((0, 1, 0), (0, 2, 0), (1, 0, 1), (2, 0, 2)))
# The first of two edges is told by the label behind two more.
LATER = (7, ((0, 1, 0), (0, 2, 0), (1, 3, 0), (2, 4, 0), (3, 5, 0), (4, 6, 0), (5, 0, 1), (6, 0, 2)))
EYE = (2, ((0, 0, 0), (0, 1, 0), (1, 0, 0)))
LONG_EYE = (4, ((0, 1, 0), (0, 2, 0), (1, 3, 1), (2, 3, 1), (3, 0, 2)))
# Two states whose walks stay apart: no delay, but no diamond either.
LEFT = (2, ((0, 0, 0), (0, 0, 1), (1, 0, 1), (1, 1, 0)))
BESIDE = (3, ((0, 1, 0), (0, 2, 0), (1, 1, 1), (2, 2, 1)))
TWICE = (2, ((0, 0, 0), (1, 1, 0)))
DEAD_TWIN = (3, ((0, 0, 0), (0, 1, 0), (2, 0, 1), (2, 1, 1)))
SWING = (2, ((0, 0, 0), (0, 1, 1), (1, 0, 1), (1, 1, 0)))
CODES = [TURN, LATE, LATER, EYE, LONG_EYE, LEFT, BESIDE, TWICE, DEAD_TWIN, SWING, limits.slow(3), limits.slow(2, 2)]
TINY = [web for web in plain.SPECIAL + CODES + plain.sparse_webs(51, 60, 2, 2, 70) + plain.sparse_webs(52, 60, 3, 2, 70)
        + plain.random_webs(53, 60, 3, 2, 2) + plain.random_webs(54, 40, 3, 3, 2) if web[0] <= 3 and len(web[1]) <= 7]
MORE = plain.SPECIAL + CODES + plain.sparse_webs(55, 60, 4, 2, 80) + plain.sparse_webs(56, 60, 5, 3, 50)
MORE += plain.random_webs(57, 60, 5, 3, 2) + plain.random_webs(58, 30, 6, 4, 2) + TINY


@cache
def core_edges(web):
    """Return the edges of the essential web."""
    return essential(web)[1]


def core_walks(web, length):
    """Return the walks of so many edges, at least one, in the essential web, as tuples of indexes."""
    edges = core_edges(web)
    found = [(at,) for at in range(len(edges))]
    for _ in range(length - 1):
        found = [walk + (at,) for walk in found for at, edge in enumerate(edges) if edges[walk[-1]][1] == edge[0]]
    return found


def labels_of(web, walk):
    """Return the labels of a walk."""
    return tuple(core_edges(web)[at][2] for at in walk)


def start_of(web, walk):
    """Return the start of a walk."""
    return core_edges(web)[walk[0]][0]


def end_of(web, walk):
    """Return the end of a walk."""
    return core_edges(web)[walk[-1]][1]
