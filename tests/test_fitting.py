"""Point 32: orbits that fit, common parts and first orbits."""

import unittest
from functools import cache

from shiftcore.codes import lifts
from shiftcore.counting import count_orbits
from shiftcore.errors import BadLength, BadWeb
from shiftcore.fitting import common_part, first_orbit, orbits_fit
from shiftcore.readers import reader, stray_word
from shiftcore.webs import joint
from tests import limits, plain
from tests.cases import WithLimits
from tests.plain import APART, EMPTY, EVEN, FULL, FULL_FOUR, GOLDEN, POINT, RING, SWAP, all_words

SMALL = [web for web in plain.SPECIAL if web[0] <= 6] + plain.random_webs(71, 30, 3, 2, 2)
SMALL += plain.random_webs(72, 20, 4, 3, 2) + plain.sparse_webs(73, 20, 4, 2, 60) + [plain.ring(4, 0, 1)]
WRONG_LENGTHS = [0, -1, True, False, None, "1", (1,), [1], {}, 10 ** 30]
MARKS = plain.ring(3, 0, 1)


def is_least(word):
    """Return whether a word is no shorter word, again and again."""
    return not any(len(word) % size == 0 and word == word[:size] * (len(word) // size) for size in range(1, len(word)))


@cache
def orbits(web, length):
    """Return the ascending tuple of the words that are read again and again, and are no shorter word so."""
    labels = max([label for _, _, label in web[1]], default=0) + 1
    return tuple(word for word in all_words(labels, length) if is_least(word) and plain.is_read(web, word * 34))


def ring_of(word):
    """Return the web of one closed walk with the labels of a word."""
    many = len(word)
    return many, tuple(sorted((at, (at + 1) % many, label) for at, label in enumerate(word)))


def shared_word(one, other):
    """Return the longest word with two periods, without a common divisor, that is not of one label alone."""
    group = list(range(one + other - 2))
    for period in (one, other):
        for at in range(period, len(group)):
            low, high = sorted((group[at], group[at - period]))
            group = [low if name == high else name for name in group]
    return tuple(int(name != group[0]) for name in group)


class Orbits(WithLimits):
    def test_by_words(self):
        found = set()
        for one in SMALL:
            for other in SMALL[::4]:
                if closed_states(one) <= 6 and closed_states(other) <= 6:
                    counts = [(len(orbits(one, length)), len(orbits(other, length))) for length in range(1, 6)]
                    more = [length for length, (left, right) in enumerate(counts, start=1) if left > right]
                    for most in (1, 3, 5):
                        least = orbits_fit(one, other, most)
                        self.assertEqual(least, more[0] if more and more[0] <= most else None)
                        found.add(least)
        self.assertLessEqual({1, 2, 3, 4, None}, found)

    def test_by_counting(self):
        for one in SMALL[::3]:
            for other in SMALL[::5]:
                if closed_states(one) <= 6 and closed_states(other) <= 6:
                    least = orbits_fit(one, other, 14)
                    for length in range(1, 15 if least is None else least + 1):
                        self.assertEqual(count_orbits(one, length) > count_orbits(other, length), length == least)

    def test_shifts_that_lie_in_others(self):
        for one in SMALL:
            for other in SMALL[::3]:
                if closed_states(one) <= 6 and closed_states(other) <= 6 and stray_word(other, one) is None:
                    self.assertIsNone(orbits_fit(one, other, 30))

    def test_webs(self):
        self.assertEqual([orbits_fit(FULL, GOLDEN, most) for most in (1, 5, 60)], [1, 1, 1])
        self.assertIsNone(orbits_fit(GOLDEN, FULL, 60))
        self.assertEqual([orbits_fit(EMPTY, web, 60) for web in (EMPTY, GOLDEN)], [None, None])
        self.assertEqual([orbits_fit(plain.ring(5, 0, 1), EMPTY, most) for most in (1, 4, 5, 60)], [None, None, 5, 5])
        self.assertEqual([orbits_fit(plain.ring(6, 0, 1), GOLDEN, 60), orbits_fit(APART, GOLDEN, 60)], [None, 1])
        # EVEN has two fixed points and no orbit of 2, GOLDEN one of each kind.
        self.assertEqual([orbits_fit(EVEN, GOLDEN, 60), orbits_fit(GOLDEN, EVEN, 60)], [1, 2])
        self.assertEqual([orbits_fit(SWAP, POINT, most) for most in (1, 2, 60)], [None, 2, 2])

    def test_lengths(self):
        for length in WRONG_LENGTHS + [61]:
            self.assertRaises(BadLength, orbits_fit, GOLDEN, EVEN, length)
            self.assertRaises(BadLength, orbits_fit, limits.SETS_201, EVEN, length)
            self.assertRaises(BadWeb, orbits_fit, GOLDEN, None, length)
        self.assertIsNone(orbits_fit(GOLDEN, GOLDEN, 60))

    def test_too_many(self):
        seven = plain.ring(7, 0, 1)
        self.assertEqual([closed_states(seven), closed_states(plain.ring(6, 0, 1))], [7, 6])
        self.assertEqual(orbits_fit(plain.ring(6, 0, 1), GOLDEN, 6), None)
        for one, other, most in [(limits.SETS_201, seven, 200), (seven, limits.SETS_201, 6), (seven, GOLDEN, 6),
                                 (GOLDEN, seven, 6), (GOLDEN, limits.SETS_201, 200), (limits.SETS_200, GOLDEN, 6),
                                 (FULL, limits.SETS_201, 200), (limits.SETS_201, EMPTY, 200), (EMPTY, seven, 6)]:
            for length in (1, 5, 60):
                self.check_too_many(most, orbits_fit, one, other, length)


def closed_states(web):
    """Return how many states of the smallest table that reads the words of a web lie on closed walks in it."""
    rows = reader(web)
    ahead = [{there for there in row if there is not None} for row in rows]
    for _ in rows:
        ahead = [here | {far for there in here for far in ahead[there]} for here in ahead]
    return sum(state in here for state, here in enumerate(ahead))


class Common(WithLimits):
    def test_by_words_of_each_length(self):
        found = set()
        for one in SMALL:
            for other in SMALL[::2]:
                least = common_part(one, other)
                for length in range(0, 8):
                    shared = plain.core_words(one, length) & plain.core_words(other, length)
                    self.assertEqual(not shared, least is not None and length >= least)
                found.add(least)
        self.assertLessEqual({0, 1, 2, 3, None}, found)

    def test_common_sequences_have_common_words(self):
        for one in SMALL:
            for other in SMALL[::3]:
                if one[0] * other[0] <= 32 and len(one[1]) * len(other[1]) <= 100:
                    # Webs as small as these have a common sequence if they have common words of 40 labels.
                    self.assertEqual(joint(one, other) == EMPTY, common_part(one, other) is not None)

    def test_long_common_words(self):
        for left, right in [(2, 3), (3, 5), (5, 8), (16, 21), (17, 24), (19, 22)]:
            word = shared_word(left, right)
            one, other = ring_of(word[:left]), ring_of(word[:right])
            self.assertEqual(common_part(one, other), left + right - 1)
            self.assertTrue(plain.is_read(one, word) and plain.is_read(other, word))
            self.assertEqual([plain.is_read(one, word + (label,)) and plain.is_read(other, word + (label,))
                              for label in (0, 1)], [False, False])

    def test_bounds(self):
        for left, right, least in [(17, 23, 39), (17, 24, 40), (17, 25, None), (20, 23, None), (13, 30, None)]:
            word = shared_word(left, right)
            one, other = ring_of(word[:left]), ring_of(word[:right])
            self.assertEqual(common_part(one, other), least)
            self.assertEqual(common_part(other, one), least)
        # The longest row of one label in rings of 32 states has 31 labels.
        self.assertEqual([common_part(plain.ring(32, 0, 1), web) for web in (POINT, FULL)], [32, None])

    def test_webs(self):
        self.assertEqual([common_part(EMPTY, web) for web in (EMPTY, GOLDEN, plain.DEAD)], [0] * 3)
        self.assertEqual([common_part(web, plain.DEAD) for web in (FULL_FOUR, GOLDEN, (3, ()))], [0] * 3)
        self.assertEqual([common_part(POINT, (1, ((0, 0, 1),))), common_part(GOLDEN, (1, ((0, 0, 1),)))], [1, 2])
        self.assertEqual([common_part(one, other) for one, other in ((GOLDEN, EVEN), (FULL_FOUR, RING), (RING, POINT))],
                         [None] * 3)
        self.assertEqual([common_part(SWAP, MARKS), common_part(MARKS, SWAP)], [4, 4])

    def test_no_bound_of_sets_or_pairs(self):
        self.assertIsNone(common_part(limits.SETS_201, limits.SETS_201))
        self.assertIsNone(common_part(limits.slow(32), limits.slow(32)))
        self.assertEqual(common_part(limits.slow(32), (1, ((0, 0, 2),))), 1)

    def test_wrong_webs(self):
        for web in (None, (0,), (1, ((0, 0, 4),))):
            self.assertRaises(BadWeb, common_part, web, GOLDEN)
            self.assertRaises(BadWeb, common_part, GOLDEN, web)
            self.assertRaises(BadWeb, common_part, EMPTY, web)


class First(WithLimits):
    def test_by_all_words(self):
        found = set()
        for web in SMALL:
            for length in range(1, 9 if max([label for _, _, label in web[1]], default=0) < 2 else 5):
                words = orbits(web, length)
                self.assertEqual(first_orbit(web, length), words[0] if words else None)
                found.add((length, bool(words)))
        self.assertEqual(len(found), 16)

    def test_agrees_with_counting(self):
        for web in SMALL:
            if closed_states(web) <= 6:
                for length in range(1, 9):
                    word = first_orbit(web, length)
                    self.assertEqual(word is None, count_orbits(web, length) == 0)
                    if word is not None:
                        self.assertEqual(len(word), length)
                        self.assertEqual(word, min(word[at:] + word[:at] for at in range(length)))

    def test_webs(self):
        self.assertEqual([first_orbit(FULL, length) for length in (1, 2, 3, 8)],
                         [(0,), (0, 1), (0, 0, 1), (0, 0, 0, 0, 0, 0, 0, 1)])
        self.assertEqual([first_orbit(GOLDEN, length) for length in (1, 2, 3, 5)],
                         [(0,), (0, 1), (0, 0, 1), (0, 0, 0, 0, 1)])
        self.assertEqual([first_orbit(EVEN, length) for length in (1, 2, 3, 4)], [(0,), None, (0, 0, 1), (0, 0, 1, 1)])
        self.assertEqual([first_orbit(RING, length) for length in (1, 2, 4, 8)], [(0,), None, None, None])
        self.assertEqual([first_orbit(SWAP, length) for length in (1, 2, 4)], [None, (0, 1), None])
        self.assertEqual([first_orbit(EMPTY, length) for length in (1, 8)], [None, None])
        self.assertEqual([first_orbit(plain.ring(8, 3, 2), length) for length in (8, 7)],
                         [(2, 3, 3, 3, 3, 3, 3, 3), None])
        # The word is read from one side to the other, but not again and again.
        self.assertEqual(first_orbit((2, ((0, 0, 0), (0, 1, 1), (1, 1, 0))), 2), None)
        # Four labels in rings of seven: many words and no orbit of 8.
        many = (7, tuple(sorted((at, (at + 1) % 7, label) for at in range(7) for label in range(4 if at else 1))))
        self.assertEqual([first_orbit(many, length) for length in (7, 8)], [(0, 0, 0, 0, 0, 0, 1), None])
        self.assertEqual(lifts(limits.slow(4), first_orbit(limits.slow(4), 4)) > 0, True)

    def test_rounds(self):
        # A word of the label 0 is read for up to 31 rounds, but not again and again.
        self.assertEqual([first_orbit(plain.ring(32, 0, 1), length) for length in (1, 2, 8)], [None] * 3)
        # But it is if walks with it come into a closed walk.
        many, edges = plain.ring(32, 0, 1)
        self.assertEqual(first_orbit((many, tuple(sorted(edges + ((31, 31, 0),)))), 1), (0,))

    def test_no_bound_of_sets(self):
        self.assertEqual(first_orbit(limits.SETS_201, 1), orbits(limits.SETS_201, 1)[0])
        self.assertEqual(first_orbit(FULL_FOUR, 8), (0,) * 7 + (1,))

    def test_wrong_lengths(self):
        for length in WRONG_LENGTHS + [9]:
            self.assertRaises(BadLength, first_orbit, GOLDEN, length)
            self.assertRaises(BadLength, first_orbit, EMPTY, length)
            self.assertRaises(BadWeb, first_orbit, (1, None), length)


if __name__ == "__main__":
    unittest.main()
