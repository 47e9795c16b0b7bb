"""Webs: what they read, their essential webs, and webs made of two webs (points 2 and 3)."""

from shiftcore.checks import MOST_EDGES, MOST_STATES, check_length, check_web, check_word
from shiftcore.ends import all_bits, by_label, follow
from shiftcore.errors import TooMany

MOST_WORD_LENGTH = 8
MOST_WORDS = 5000


def essential(web):
    """Return the web of the states and edges that lie on walks without an end in both directions."""
    check_web(web)
    return trimmed(web[1])


def trimmed(edges):
    """Return the essential web of ascending edges between any states, the states counted anew."""
    kept = list(edges)
    before = -1
    while len(kept) != before:
        before = len(kept)
        starts = {edge[0]: True for edge in kept}
        ends = {edge[1]: True for edge in kept}
        kept = [edge for edge in kept if edge[0] in ends and edge[1] in starts]
    states = sorted({edge[0] for edge in kept})
    number = {state: at for at, state in enumerate(states)}
    return len(states), tuple([(number[start], number[end], label) for start, end, label in kept])


def reads(web, word):
    """Return whether a word is the labels of a walk in the essential web."""
    check_web(web)
    check_word(word)
    many, edges = trimmed(web[1])
    arrows = by_label(edges)
    here = all_bits(many)
    for label in word:
        here = follow(arrows[label], here)
    return here != 0


def words(web, length):
    """Return the ascending tuple of the words of a length that a web reads."""
    check_web(web)
    check_length(length, 0, MOST_WORD_LENGTH)
    many, edges = trimmed(web[1])
    arrows = by_label(edges)
    found = [((), all_bits(many))] if many > 0 else []
    for _ in range(length):
        found = _longer(found, arrows)
        # In an essential web every word goes on, so that longer words are never fewer.
        if len(found) > MOST_WORDS:
            raise TooMany(MOST_WORDS)
    return tuple([word for word, _ in found])


def _longer(found, arrows):
    """Return, in ascending order, the words with one label more, each with the set of its ends."""
    longer = []
    for word, here in found:
        for label, pairs in enumerate(arrows):
            there = follow(pairs, here)
            if there != 0:
                longer.append(((*word, label), there))
    return longer


def joint(one, other):
    """Return the essential web of the pairs of states of two webs."""
    check_web(one)
    check_web(other)
    left_many, left_edges = trimmed(one[1])
    right_many, right_edges = trimmed(other[1])
    if left_many * right_many > MOST_STATES:
        raise TooMany(MOST_STATES)
    edges = pair_edges(left_edges, right_edges, right_many)
    if len(edges) > MOST_EDGES:
        raise TooMany(MOST_EDGES)
    return trimmed(sorted(edges))


def pair_edges(left_edges, right_edges, right_many):
    """Return the edges between pairs of states, where both have edges with one label; the pairs are counted."""
    edges = []
    for left in left_edges:
        for right in right_edges:
            if left[2] == right[2]:
                edges.append((left[0] * right_many + right[0], left[1] * right_many + right[1], left[2]))
    return edges


def union(one, other):
    """Return the web of the states and edges of one web and, behind them, those of another one."""
    check_web(one)
    check_web(other)
    many = one[0]
    if many + other[0] > MOST_STATES:
        raise TooMany(MOST_STATES)
    moved = tuple([(start + many, end + many, label) for start, end, label in other[1]])
    if len(one[1]) + len(moved) > MOST_EDGES:
        raise TooMany(MOST_EDGES)
    return many + other[0], one[1] + moved
