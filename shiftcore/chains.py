"""Chains of chance: steady probabilities, expected numbers of steps, and what is met first (points 29 and 30)."""

from shiftcore.checks import check_state, is_word
from shiftcore.errors import BadChain, BadState, NotWhole
from shiftcore.graphs import is_one_part, reached
from shiftcore.ratios import ratio
from shiftcore.squares import determinant, diagonal_minors

MOST_STATES = 5
MOST_ENTRY = 20


def check_chain(chain):
    """Raise BadChain unless a value is a chain."""
    if not isinstance(chain, tuple) or not 1 <= len(chain) <= MOST_STATES:
        raise BadChain("not a tuple of 1 to 5 rows")
    for row in chain:
        if not is_word(row, len(chain), len(chain), MOST_ENTRY + 1) or not any(row):
            raise BadChain("not as many integers from 0 to 20 as rows, or all of them 0")


def _arrows(chain):
    """Return the pairs of states from one of which a step may lead to the other one."""
    return [(start, end) for start, row in enumerate(chain) for end, entry in enumerate(row) if entry > 0]


def shares(chain):
    """Return integers in proportion to the steady probabilities of a whole chain divided by the sums of its rows."""
    check_chain(chain)
    if not is_one_part(len(chain), _arrows(chain)):
        raise NotWhole("no way from some state to some state")
    less = [[(sum(row) if at == by else 0) - entry for by, entry in enumerate(row)] for at, row in enumerate(chain)]
    return diagonal_minors(less)


def steady(chain):
    """Return the tuple of the probabilities, one for each state, that a step leaves unchanged."""
    found = [share * sum(row) for share, row in zip(shares(chain), chain)]
    return tuple([ratio(part, sum(found)) for part in found])


def expected_steps(chain, start, goal):
    """Return the expected number of steps, at least one, from a state to another one; None if it may be endless."""
    check_chain(chain)
    many = len(chain)
    check_state(start, many)
    check_state(goal, many)
    arrows = _arrows(chain)
    onward = reached(many, [arrow for arrow in arrows if arrow[1] != goal])[start]
    met = [state for state in range(many) if state == start or onward >> state & 1]
    ahead = reached(many, arrows)
    if not all(ahead[state] >> goal & 1 for state in met):
        return None
    # From each state that is met: one step, and then the steps from the next state, unless that is the goal.
    rows = [[0 if by == goal else chain[at][by] for by in met] for at in met]
    return _unknown(rows, [sum(chain[at]) for at in met], [sum(chain[at]) for at in met], met.index(start))


def chance_first(chain, start, one, other):
    """Return the probability that a walk from a state meets one state before it meets another one."""
    check_chain(chain)
    many = len(chain)
    for state in (start, one, other):
        check_state(state, many)
    if one == other:
        raise BadState("one state twice")
    if start in (one, other):
        return ratio(int(start == one), 1)
    ahead = reached(many, _arrows(chain))
    met = [state for state in range(many) if state not in (one, other) and ahead[state] >> one & 1]
    if start not in met:
        return ratio(0, 1)
    rows = [[chain[at][by] for by in met] for at in met]
    return _unknown(rows, [sum(chain[at]) for at in met], [chain[at][one] for at in met], met.index(start))


def _unknown(rows, sums, right, place):
    """Return one of the unknown numbers whose multiples by `sums` are `right` and what `rows` make of them all."""
    less = [[(sums[at] if at == by else 0) - entry for by, entry in enumerate(row)] for at, row in enumerate(rows)]
    changed = [[*row[:place], value, *row[place + 1:]] for row, value in zip(less, right)]
    return ratio(determinant(changed), determinant(less))


def mean_time(chain):
    """Return the sum over all other states of the steady probability times the expected steps from state 0."""
    total = ratio(0, 1)
    for state, part in enumerate(steady(chain)):
        if state > 0:
            steps = expected_steps(chain, 0, state)
            bottom = part[1] * steps[1]
            total = ratio(total[0] * bottom + part[0] * steps[0] * total[1], total[1] * bottom)
    return total
