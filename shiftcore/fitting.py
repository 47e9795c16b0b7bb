"""What fits between two shifts: orbits, common words, and least orbits (point 32)."""

from shiftcore.checks import check_length, check_web
from shiftcore.counting import LONGEST_PERIOD, orbit_counts
from shiftcore.ends import LABELS, all_bits, by_label, follow
from shiftcore.graphs import is_smallest
from shiftcore.webs import essential, pair_edges

LONGEST_COMMON = 40
LONGEST_ORBIT = 8


def orbits_fit(one, other, most):
    """Return the least length, up to `most`, for which the first web has more orbits than the other one, or None."""
    check_web(one)
    check_web(other)
    check_length(most, 1, LONGEST_PERIOD)
    counts = orbit_counts(one, most)
    others = orbit_counts(other, most)
    for at, count in enumerate(counts):
        if count > others[at]:
            return at + 1
    return None


def common_part(one, other):
    """Return the least length up to 40 of which no word is read by both webs, or None."""
    many, edges = essential(one)
    others, other_edges = essential(other)
    pairs = pair_edges(edges, other_edges, others)
    here = {pair: True for pair in range(many * others)}
    for length in range(LONGEST_COMMON + 1):
        if not here:
            return length
        here = {pair[1]: True for pair in pairs if pair[0] in here}
    return None


def first_orbit(web, length):
    """Return the smallest word that is read again and again, and is not a repeated shorter one; None without one."""
    check_web(web)
    check_length(length, 1, LONGEST_ORBIT)
    many, edges = essential(web)
    arrows = by_label(edges)
    waiting = [((), all_bits(many))]
    while waiting:
        word, here = waiting.pop()
        if len(word) == length:
            # The smallest word is smaller than it is from all other starting places.
            if is_smallest(word) and _goes_on(arrows, word, here, many):
                return word
            continue
        for label in reversed(LABELS):
            there = follow(arrows[label], here)
            if there != 0:
                waiting.append(((*word, label), there))
    return None


def _goes_on(arrows, word, here, many):
    """Return whether a word can be read again and again, from the set of states behind it on."""
    # From round to round there are fewer states, or there are as many for ever.
    for _ in range(many):
        for label in word:
            here = follow(arrows[label], here)
    return here != 0
