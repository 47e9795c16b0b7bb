"""Roads, their colorings, and the weights of their states (point 18)."""

from itertools import permutations
from math import gcd

from shiftcore.checks import is_word
from shiftcore.errors import BadRoads, NotWhole
from shiftcore.graphs import is_one_part
from shiftcore.machines import is_machine, reset_word
from shiftcore.squares import diagonal_minors, empty_square

MOST_STATES = 5
FEWEST_ROADS = 2
MOST_ROADS = 3


def coloring(roads):
    """Return a machine with a reset word whose rows are those of the roads, each in some order; None without one."""
    _check_roads(roads)
    # Other names for the letters change nothing about resets, so that row 0 may keep its order.
    machines = [(roads[0],)]
    for row in roads[1:]:
        orders = sorted({order for order in permutations(row)})
        machines = [(*rows, order) for rows in machines for order in orders]
    for machine in machines:
        if reset_word(machine) is not None:
            return machine
    return None


def shows_coloring(roads, value):
    """Return whether any value is a coloring of roads."""
    _check_roads(roads)
    if not is_machine(value):
        return False
    return tuple([tuple(sorted(row)) for row in value]) == roads and reset_word(value) is not None


def weights(roads):
    """Return the positive integers without a common divisor whose sums over roads are as many times themselves."""
    _check_roads(roads)
    less = empty_square(len(roads))
    for start, row in enumerate(roads):
        less[start][start] += len(row)
        for end in row:
            less[start][end] -= 1
    minors = diagonal_minors(less)
    divisor = 0
    for minor in minors:
        divisor = gcd(divisor, minor)
    return tuple([minor // divisor for minor in minors])


def _check_roads(roads):
    """Raise BadRoads unless a value is roads, and NotWhole unless they lead from every state to every state."""
    if not isinstance(roads, tuple) or not 1 <= len(roads) <= MOST_STATES:
        raise BadRoads(None)
    for at, row in enumerate(roads):
        if not is_word(row, FEWEST_ROADS, MOST_ROADS, len(roads)) or len(row) != len(roads[0]):
            raise BadRoads(at)
        if row != tuple(sorted(row)):
            raise BadRoads(at)
    arrows = [(start, end) for start, row in enumerate(roads) for end in row]
    if not is_one_part(len(roads), arrows):
        raise NotWhole("no road from some state to some state")
