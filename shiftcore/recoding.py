"""Other webs for the same walks: webs of walks, resolving webs, and windows that tell an edge (point 26)."""

from shiftcore.checks import MOST_EDGES, MOST_STATES, check_length, check_web
from shiftcore.codes import delay, is_one_to_one
from shiftcore.ends import by_label, follow
from shiftcore.errors import NotResolving, TooMany
from shiftcore.webs import essential, pair_edges

LONGEST_BLOCK = 4


def blocks(web, length):
    """Return the web of the walks of length - 1 edges, with an edge for each walk of one edge more."""
    check_web(web)
    check_length(length, 1, LONGEST_BLOCK)
    edges = essential(web)[1]
    many, steps = block_steps(web, length)
    return many, tuple([(start, end, edges[walk[0]][2]) for start, end, walk in steps])


def block_steps(web, length):
    """Return the number of walks of length - 1 edges, and the ascending list of the steps between them.

    A step is the number of the walk of the first edges, that of the walk of the last ones, and the walk of them all.
    """
    many, edges = essential(web)
    if length == 1:
        return many, [(start, end, (at,)) for at, (start, end, _) in enumerate(edges)]
    walks = [(at,) for at in range(len(edges))]
    for _ in range(length - 2):
        walks = _longer_walks(edges, walks)
    _check_room(walks, MOST_STATES)
    longer = _longer_walks(edges, walks)
    _check_room(longer, MOST_EDGES)
    number = {walk: at for at, walk in enumerate(walks)}
    return len(walks), [(number[walk[:-1]], number[walk[1:]], walk) for walk in longer]


def _longer_walks(edges, walks):
    """Return, in ascending order, the walks with one edge more."""
    return [(*walk, at) for walk in walks for at, edge in enumerate(edges) if edge[0] == edges[walk[-1]][1]]


def _check_room(found, most):
    """Raise TooMany if there are more than so many things."""
    if len(found) > most:
        raise TooMany(most)


def straightened(web):
    """Return the resolving web of the pairs of a state and a word, as long as the delay, that can be read from it."""
    late = delay(web)
    if late is None:
        raise NotResolving("no delay")
    many, edges = essential(web)
    arrows = by_label(edges)
    ahead = [(state, (), 1 << state) for state in range(many)]
    for _ in range(late):
        ahead = _read_on(arrows, ahead)
        # In an essential web every word goes on, so that longer words are never fewer.
        _check_room(ahead, MOST_STATES)
    number = {(state, word): at for at, (state, word, _) in enumerate(ahead)}
    longer = _read_on(arrows, ahead)
    _check_room(longer, MOST_EDGES)
    found = []
    for state, word, _ in longer:
        # The delay is such that just one edge begins the walks with these labels.
        ends = [end for start, end, label in edges if (start, label) == (state, word[0]) and (end, word[1:]) in number]
        found.append((number[(state, word[:-1])], number[(ends[0], word[1:])], word[-1]))
    return len(ahead), tuple(sorted(found))


def _read_on(arrows, ahead):
    """Return, in ascending order, the states with words of one label more and the sets of ends of their walks."""
    longer = []
    for state, word, here in ahead:
        for label, pairs in enumerate(arrows):
            there = follow(pairs, here)
            if there != 0:
                longer.append((state, (*word, label), there))
    return longer


def window(web):
    """Return the least n such that the labels of 2n + 1 edges tell the edge in the middle; None without one."""
    if not is_one_to_one(web):
        return None
    many, edges = essential(web)
    pairs = pair_edges(edges, edges, many)
    twins = {state * many + state: True for state in range(many)}
    # Two edges with the same label are unlike if their starts or their ends are.
    unlike = [pair for pair in pairs if pair[0] not in twins or pair[1] not in twins]
    late = 0
    onward = {pair[1]: True for pair in pairs}
    back = {pair[0]: True for pair in pairs}
    while any(pair[0] in back and pair[1] in onward for pair in unlike):
        late += 1
        onward = {pair[0]: True for pair in pairs if pair[1] in onward}
        back = {pair[1]: True for pair in pairs if pair[0] in back}
    return late
