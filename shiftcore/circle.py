"""Maps of a circle, as maps of the line: rising ones, maps in a row, rotations and turning points (points 24, 25).

The place k of the line stands for k / q, for a map of q parts; piece k lies between the places k and k + 1.
"""

from shiftcore.checks import check_number, is_between
from shiftcore.errors import BadTurns, NotLinear, NotRising, TooMany
from shiftcore.ratios import ratio

MOST_PARTS = 8
MOST_ENTRY = 40
MOST_TOP = 100
MOST_BOTTOM = 12


def _check_turns(turns):
    """Raise BadTurns unless a value is a turn map."""
    if not isinstance(turns, tuple) or not 1 <= len(turns) <= MOST_PARTS:
        raise BadTurns("not a tuple of 1 to 8 entries")
    if not _are_entries(turns):
        raise BadTurns("not integers from -40 to 40")


def _are_entries(values):
    """Return whether all values are integers that may be entries of a turn map."""
    return all(is_between(value, -MOST_ENTRY, MOST_ENTRY) for value in values)


def _at(turns, place):
    """Return the place to which a turn map takes any place of the line."""
    many = len(turns)
    return turns[place % many] + place // many * many


def _around(turns, piece):
    """Return the lower and the upper one of the places to which a turn map takes the ends of a piece."""
    start, end = _at(turns, piece), _at(turns, piece + 1)
    return min(start, end), max(start, end)


def is_rising(turns):
    """Return whether a turn map never falls."""
    _check_turns(turns)
    return all(_at(turns, place) <= _at(turns, place + 1) for place in range(len(turns)))


def after_turns(one, other):
    """Return the turn map that first does one turn map and then another one."""
    _check_turns(one)
    _check_turns(other)
    if len(one) != len(other) or not _is_linear(one, other):
        raise NotLinear("not one linear map between neighboring places")
    found = tuple([_at(other, there) for there in one])
    if not _are_entries(found):
        raise TooMany(MOST_ENTRY)
    return found


def _is_linear(one, other):
    """Return whether a turn map is linear over each row of pieces to which another one takes a piece."""
    for piece in range(len(one)):
        low, high = _around(one, piece)
        if len({_at(other, place + 1) - _at(other, place) for place in range(low, high)}) > 1:
            return False
    return True


def upper(turns):
    """Return the turn map with the greatest values of a turn map at places that are not greater."""
    _check_turns(turns)
    many = len(turns)
    # Places that lie more than a turn lower have values that are lower by a turn.
    return tuple([max([_at(turns, place - back) for back in range(many)]) for place in range(many)])


def lower(turns):
    """Return the turn map with the least values of a turn map at places that are not smaller."""
    _check_turns(turns)
    many = len(turns)
    return tuple([min([_at(turns, place + on) for on in range(many)]) for place in range(many)])


def rotation(turns):
    """Return the ratio by which a rising turn map goes on in one step, on the long average."""
    if not is_rising(turns):
        raise NotRising("the map falls somewhere")
    many = len(turns)
    met = {}
    here = 0
    while here % many not in met:
        met[here % many] = (here, len(met))
        here = _at(turns, here)
    before, steps = met[here % many]
    return ratio((here - before) // many, len(met) - steps)


def rotations(turns):
    """Return the pair of the least and the greatest rotation of a turn map."""
    return rotation(lower(turns)), rotation(upper(turns))


def common_turn(turns):
    """Return the ratio with the smallest bottom, then the smallest top, from the least to the greatest rotation."""
    least, greatest = rotations(turns)
    bottom = 1
    top = -(-least[0] // least[1])
    while top * greatest[1] > greatest[0] * bottom:
        bottom += 1
        top = -(-least[0] * bottom // least[1])
    return top, bottom


def has_turn(turns, top, bottom):
    """Return whether some point comes back after `bottom` steps, and not earlier, `top` turns on."""
    _check_turns(turns)
    check_number(top, -MOST_TOP, MOST_TOP)
    check_number(bottom, 1, MOST_BOTTOM)
    # A point that meets no place lies inside of a closed row of pieces that repeats no shorter one; or of one that is
    # gone through twice, as a piece comes back turned around, one to one, and then its ends are places that turn so.
    # Each such row has a point of its own. If that is a place that comes back earlier, the map falls there halfway,
    # steeply, and there is another point around it that comes back so.
    return _place_turns(turns, top, bottom) or _least_rows(turns, top, bottom) > 0


def _place_turns(turns, top, bottom):
    """Return whether some place comes back after `bottom` steps, and not earlier, `top` turns on."""
    many = len(turns)
    for first in range(many):
        here = _at(turns, first)
        steps = 1
        while steps < bottom and (here - first) % many != 0:
            here = _at(turns, here)
            steps += 1
        if steps == bottom and here - first == top * many:
            return True
    return False


def _least_rows(turns, top, bottom):
    """Return the number of closed rows of `bottom` pieces, `top` turns on, that repeat no shorter row."""
    count = _closed_rows(turns, top, bottom)
    for times in range(2, bottom + 1):
        if bottom % times == 0 and top % times == 0:
            count -= _least_rows(turns, top // times, bottom // times)
    return count


def _closed_rows(turns, top, bottom):
    """Return the number of rows of `bottom` steps from a piece to the same piece, `top` turns on."""
    many = len(turns)
    count = 0
    for first in range(many):
        rows = {first: 1}
        for _ in range(bottom):
            rows = _longer_rows(turns, rows)
        count += rows.get(first + top * many, 0)
    return count


def _longer_rows(turns, rows):
    """Return the numbers of rows to each piece, from those of the rows that are one step shorter."""
    changes = {}
    for piece, count in rows.items():
        low, high = _around(turns, piece)
        changes[low] = changes.get(low, 0) + count
        changes[high] = changes.get(high, 0) - count
    longer = {}
    count = 0
    places = sorted(changes)
    for place, beyond in zip(places, places[1:]):
        count += changes[place]
        for piece in range(place, beyond):
            longer[piece] = count
    return longer
