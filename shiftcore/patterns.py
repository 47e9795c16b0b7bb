"""Patterns of cycles of maps of an interval: their webs, periods and cycles (points 21 to 23)."""

from shiftcore.checks import check_number, is_between, is_word
from shiftcore.errors import BadNumber, BadPattern, TooMany
from shiftcore.squares import empty_square, least_counts, power_traces

MOST_POINTS = 9
LONGEST_PERIOD = 60
MOST_NUMBER = 1000000


def check_pattern(pattern):
    """Raise BadPattern unless a value is a pattern."""
    if not isinstance(pattern, tuple) or not is_word(pattern, 1, MOST_POINTS, len(pattern)):
        raise BadPattern("not 1 to 9 numbers from 0 on")
    met = 1
    here = pattern[0]
    while here != 0 and met < len(pattern):
        here = pattern[here]
        met += 1
    if here != 0 or met != len(pattern):
        raise BadPattern("not a cycle of all numbers")


def pieces_over(pattern):
    """Return, for each piece between neighbors, the list of the pieces that the map takes it over."""
    found = []
    for one, other in zip(pattern, pattern[1:]):
        found.append(list(range(min(one, other), max(one, other))))
    return found


def closed_counts(pattern, period):
    """Return the numbers of closed walks of 1, 2, .., period edges in the web of a pattern."""
    over = pieces_over(pattern)
    square = empty_square(len(over))
    for start, pieces in enumerate(over):
        for end in pieces:
            square[start][end] = 1
    return power_traces(square, period)


def pattern_web(pattern):
    """Return the web of the pieces between neighbors, with edges to the pieces that the map takes them over."""
    check_pattern(pattern)
    over = pieces_over(pattern)
    return len(over), tuple([(start, end, 0) for start, pieces in enumerate(over) for end in pieces])


def mirror(pattern):
    """Return the pattern that is seen from the other side."""
    check_pattern(pattern)
    return tuple([len(pattern) - 1 - there for there in reversed(pattern)])


def doubled(pattern):
    """Return the pattern in which each number is replaced by two, the pair of 0 turned around."""
    check_pattern(pattern)
    if 2 * len(pattern) > MOST_POINTS:
        raise TooMany(MOST_POINTS)
    found = [2 * pattern[0] + 1, 2 * pattern[0]]
    for there in pattern[1:]:
        found.extend([2 * there, 2 * there + 1])
    return tuple(found)


def comes_before(one, other):
    """Return whether a positive integer stands in front of another one in the order of Sharkovskii."""
    check_number(one, 1, MOST_NUMBER)
    check_number(other, 1, MOST_NUMBER)
    return _place(one) < _place(other)


def _place(number):
    """Return what tells the place of a positive integer in the order of Sharkovskii: the smaller stand in front."""
    odd = number
    twos = 0
    while odd % 2 == 0:
        odd //= 2
        twos += 1
    return (0, twos, odd) if odd > 1 else (1, -twos, 1)


def has_period(pattern, period):
    """Return whether the map of a pattern has a point with a least period."""
    check_pattern(pattern)
    check_number(period, 1, LONGEST_PERIOD)
    return period in _periods(pattern, period)


def _periods(pattern, most):
    """Return the list of the least periods up to `most` of points of the map of a pattern.

    A closed walk of pieces that repeats no shorter one is followed by one cycle of as many points inside of the
    pieces, or by the cycle of the pattern itself, and each other cycle follows one, but for a band: there the middle
    of a piece follows one, and the other points have the period of the pattern.
    """
    least = least_counts(closed_counts(pattern, most))
    return [period for period, many in enumerate(least, start=1) if many > 0 or period == len(pattern)]


def kind(pattern):
    """Return the least period of points of the map of a pattern that stands first in the order of Sharkovskii."""
    check_pattern(pattern)
    # If two closed walks of at most 8 pieces each meet, going around both, one of them once or twice, gives a period
    # of at most 24 with the fewest factors 2 and an odd factor; so the first one is not beyond 60.
    return min(_periods(pattern, LONGEST_PERIOD), key=_place)


def stefan(many):
    """Return the pattern of an odd number of numbers that swings around the middle one, farther and farther."""
    if not is_between(many, 3, MOST_POINTS) or many % 2 == 0:
        raise BadNumber("not an odd integer from 3 to 9")
    middle = many // 2
    met = [middle]
    for far in range(1, middle + 1):
        met.extend([middle + far, middle - far])
    found = [0] * many
    for at, here in enumerate(met):
        found[here] = met[(at + 1) % many]
    return tuple(found)


def count_cycles(pattern, period):
    """Return the number of cycles with a least period of the map of a pattern without a band."""
    check_pattern(pattern)
    check_number(period, 1, LONGEST_PERIOD)
    if _has_band(pattern):
        raise TooMany(1)
    # The map of the pattern (0,) has no pieces, but a cycle.
    if len(pattern) == 1:
        return int(period == 1)
    return least_counts(closed_counts(pattern, period))[-1] // period


def _has_band(pattern):
    """Return whether the map of a pattern takes some piece, after some steps, one to one to itself."""
    over = pieces_over(pattern)
    for piece in range(len(over)):
        here = piece
        for _ in over:
            if len(over[here]) != 1:
                break
            here = over[here][0]
            if here == piece:
                return True
    return False
