"""The patterns of the cycles of the map of a pattern (point 23)."""

from shiftcore.checks import check_number
from shiftcore.errors import TooMany
from shiftcore.graphs import is_smallest
from shiftcore.patterns import check_pattern, closed_counts, pieces_over

LONGEST_CYCLE = 6
MOST_WALKS = 20000


def shown(pattern, period):
    """Return the ascending tuple of the patterns of all cycles with a least period of the map of a pattern."""
    check_pattern(pattern)
    check_number(period, 1, LONGEST_CYCLE)
    if closed_counts(pattern, period)[-1] > MOST_WALKS:
        raise TooMany(MOST_WALKS)
    found = {_pattern_of(_points(pattern, walk)): True for walk in _closed_walks(pieces_over(pattern), period)}
    # Closed walks of pieces that repeat a shorter one tell no other patterns: see the bands of the module patterns.
    if period == len(pattern):
        found[pattern] = True
    return tuple(sorted(found))


def _closed_walks(over, length):
    """Return the closed walks that repeat no shorter one, each one from its smallest starting place only."""
    found = []
    for start in range(len(over)):
        walks = [(start,)]
        for _ in range(length - 1):
            walks = [(*walk, there) for walk in walks for there in over[walk[-1]] if there >= start]
        found.extend([walk for walk in walks if start in over[walk[-1]] and is_smallest(walk)])
    return found


def _points(pattern, walk):
    """Return the points of the cycle that goes through the pieces of a closed walk, times one positive integer."""
    slope, shift = 1, 0
    for piece in walk:
        steep = pattern[piece + 1] - pattern[piece]
        slope *= steep
        shift = pattern[piece] + steep * (shift - piece)
    # The point x with x = slope * x + shift; the slope is not 1, as no piece comes back to itself unturned.
    bottom = abs(1 - slope)
    top = shift if slope < 1 else -shift
    found = []
    for piece in walk:
        found.append(top)
        top = pattern[piece] * bottom + (pattern[piece + 1] - pattern[piece]) * (top - piece * bottom)
    return found


def _pattern_of(points):
    """Return the pattern of a cycle of points, numbered from left to right."""
    number = {point: at for at, point in enumerate(sorted(points))}
    follower = {number[one]: number[other] for one, other in zip(points, points[1:] + points[:1])}
    return tuple([follower[at] for at in range(len(points))])


def forces(pattern, other):
    """Return whether the map of a pattern has a cycle with another pattern."""
    check_pattern(pattern)
    check_pattern(other)
    if pattern == other:
        return True
    if len(other) > LONGEST_CYCLE:
        raise TooMany(LONGEST_CYCLE)
    return other in shown(pattern, len(other))
