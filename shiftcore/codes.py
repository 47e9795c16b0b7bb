"""The codes that the labels of webs make of walks in their essential webs (points 15 and 16)."""

from shiftcore.checks import LONGEST_WORD, MOST_LABEL, check_web, is_between, is_word
from shiftcore.ends import all_bits, by_label, follow, least_set, many_in, sets_met, states_in
from shiftcore.errors import BadWord, NotFinite, NotResolving
from shiftcore.graphs import closed_parts, longest_walk
from shiftcore.parts import whole_core
from shiftcore.webs import essential, pair_edges, trimmed

MOST_TRIED = 2000


def is_resolving(web):
    """Return whether no two edges with the same start have the same label."""
    edges = essential(web)[1]
    return len({(start, label) for start, _, label in edges}) == len(edges)


def delay(web):
    """Return the least d such that the labels of d + 1 edges tell the first edge from a start; None without one."""
    edges = essential(web)[1]
    rows = _edges_from(edges)
    nexts = {}
    for pair in _parted(edges, rows):
        nexts[pair] = [_ends(edges, step) for step in _steps(edges, rows, pair)]
    return longest_walk(nexts)


def diamond(web):
    """Return a pair of unlike walks with the same start, end and labels; None without one."""
    edges = essential(web)[1]
    found = _parted(edges, _edges_from(edges))
    for pair in found:
        if pair[0] == pair[1]:
            return _walks_to(found, pair)
    return None


def _edges_from(edges):
    """Return, for each state, the list of the indexes of the edges that start there."""
    rows = {}
    for at, edge in enumerate(edges):
        rows.setdefault(edge[0], []).append(at)
    return rows


def _steps(edges, rows, pair):
    """Return the pairs of edges with the same label that start in the states of a pair."""
    return [(one, other) for one in rows[pair[0]] for other in rows[pair[1]] if edges[one][2] == edges[other][2]]


def _ends(edges, step):
    """Return the pair of the ends of a pair of edges."""
    return edges[step[0]][1], edges[step[1]][1]


def _parted(edges, rows):
    """Return the pairs of ends of walks with unlike first edges, but the same start and labels.

    Each pair has the pair before it, None if it is the first one, and the pair of edges that leads there.
    """
    found = {}
    for state in rows:
        for step in _steps(edges, rows, (state, state)):
            if step[0] < step[1]:
                found.setdefault(_ends(edges, step), (None, step))
    queue = list(found)
    at = 0
    while at < len(queue):
        for step in _steps(edges, rows, queue[at]):
            pair = _ends(edges, step)
            if pair not in found:
                found[pair] = (queue[at], step)
                queue.append(pair)
        at += 1
    return found


def _walks_to(found, pair):
    """Return the pair of walks that lead to a pair of ends."""
    walks = []
    here = pair
    while here is not None:
        here, step = found[here]
        walks.append(step)
    return tuple([step[0] for step in reversed(walks)]), tuple([step[1] for step in reversed(walks)])


def shows_diamond(web, value):
    """Return whether any value is a pair of unlike walks with the same start, end and labels."""
    edges = essential(web)[1]
    if not isinstance(value, tuple) or len(value) != 2:
        return False
    one, other = value
    if not _is_walk(edges, one) or not _is_walk(edges, other) or one == other:
        return False
    return _ends_and_labels(edges, one) == _ends_and_labels(edges, other)


def _is_walk(edges, value):
    """Return whether a value is a walk of at least one edge, as a tuple of indexes."""
    if not isinstance(value, tuple) or not value:
        return False
    if not all(is_between(at, 0, len(edges) - 1) for at in value):
        return False
    return all(edges[one][1] == edges[other][0] for one, other in zip(value, value[1:]))


def _ends_and_labels(edges, walk):
    """Return the start, the end and the labels of a walk."""
    return edges[walk[0]][0], edges[walk[-1]][1], [edges[at][2] for at in walk]


def is_one_to_one(web):
    """Return whether no two unlike two-way endless walks have the same labels."""
    many, edges = essential(web)
    # The pairs of a state with itself stay; any other pair that stays lies on two unlike walks.
    return trimmed(pair_edges(edges, edges, many))[0] == many


def lifts(web, word):
    """Return the number of two-way endless walks with the labels of a word again and again."""
    check_web(web)
    if not is_word(word, 1, LONGEST_WORD, MOST_LABEL + 1):
        raise BadWord("not a tuple of 1 to 60 labels")
    if diamond(web) is not None:
        raise NotFinite("the web has a diamond")
    many, edges = essential(web)
    arrows = []
    for state in range(many):
        arrows.extend([(state, end) for end in states_in(_behind(edges, state, word))])
    # Walks that part or meet between closed walks would make a diamond; so each state tells its closed walk.
    return sum(len(part) for part in closed_parts(many, arrows))


def _behind(edges, state, word):
    """Return the set of the ends of the walks from a state with the labels of a word."""
    arrows = by_label(edges)
    here = 1 << state
    for label in word:
        here = follow(arrows[label], here)
    return here


def degree(web):
    """Return the least number of states, but 0, behind all walks with the labels of one word."""
    return many_in(_least_ends(web)[0])


def degree_word(web):
    """Return the word, shorter, then smaller, behind whose walks there are the fewest states, but not 0."""
    return _least_ends(web)[1]


def _least_ends(web):
    """Return the smallest set of ends behind a word of a whole resolving web, and the first word with it."""
    many, edges = whole_core(web)
    if not is_resolving(web):
        raise NotResolving("two edges with the same start and label")
    met = sets_met(by_label(edges), all_bits(many), 1, MOST_TRIED)
    here = least_set(met)
    return here, met[here]
