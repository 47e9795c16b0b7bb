"""Points 15 and 16: the codes that the labels of webs make of walks."""

import unittest
from itertools import product
from math import lcm

from shiftcore.codes import (degree, degree_word, delay, diamond, is_one_to_one, is_resolving, lifts, shows_diamond)
from shiftcore.errors import BadWeb, BadWord, NotFinite, NotResolving, NotWhole
from shiftcore.parts import is_whole
from shiftcore.readers import cover
from shiftcore.webs import essential
from tests import limits, plain
from tests.cases import WithLimits
from tests.walk_ways import (BESIDE, DEAD_TWIN, EYE, LATE, LATER, LEFT, LONG_EYE, MORE, SWING, TINY, TURN, TWICE,
                             core_edges, core_walks, end_of, labels_of, start_of)

WHOLE = [web for web in MORE if is_whole(web) and is_resolving(web)]


def tells_first(web, length):
    """Return whether walks of so many edges with the same start and labels have the same first edge."""
    first = {}
    for walk in core_walks(web, length):
        if first.setdefault((start_of(web, walk), labels_of(web, walk)), walk[0]) != walk[0]:
            return False
    return True


def has_twin_walks(web, length):
    """Return whether there are two unlike walks of so many edges with the same start, end and labels."""
    walks = core_walks(web, length)
    return len({(start_of(web, walk), end_of(web, walk), labels_of(web, walk)) for walk in walks}) < len(walks)


def pair_web(web):
    """Return the states and edges, named by pairs, of two walks at once with the same labels, without dead ends."""
    _, edges = plain.core(web)
    pairs = [((one[0], other[0]), (one[1], other[1]), one[2]) for one in edges for other in edges if one[2] == other[2]]
    states = {edge[0] for edge in pairs} | {edge[1] for edge in pairs}
    while True:
        left = {state for state in states if any(edge[0] == state and edge[1] in states for edge in pairs)}
        left = {state for state in left if any(edge[1] == state and edge[0] in left for edge in pairs)}
        if left == states:
            return states, [edge for edge in pairs if edge[0] in states and edge[1] in states]
        states = left


def lifts_by_closed_walks(web, word):
    """Return how many closed walks over the word, over and over, give unlike endless walks."""
    edges = essential(web)[1]
    whole = lcm(*range(1, essential(web)[0] + 1)) if edges else 1
    found = set()
    for many in range(1, essential(web)[0] + 1):
        walks = [()]
        for label in word * many:
            walks = [walk + (at,) for walk in walks for at, edge in enumerate(edges)
                     if edge[2] == label and (not walk or edges[walk[-1]][1] == edge[0])]
        found |= {walk * (whole // many) for walk in walks if start_of(web, walk) == end_of(web, walk)}
    return len(found)


def ends_met(web):
    """Return the sets of ends behind words, but the empty one, each with its first word, all in order."""
    states, edges = plain.core(web)
    met = {frozenset(states): ()}
    queue = list(met)
    for here in queue:
        for label in range(4):
            there = frozenset(end for start, end, mark in edges if start in here and mark == label)
            if there and there not in met:
                met[there] = met[here] + (label,)
                queue.append(there)
    return met


class Resolving(unittest.TestCase):
    def test_by_edges_with_the_same_start(self):
        for web in MORE:
            _, edges = plain.core(web)
            starts = [(start, label) for start, _, label in edges]
            self.assertIs(is_resolving(web), len(starts) == len(set(starts)))
            self.assertEqual(is_resolving(web), delay(web) == 0)

    def test_of_the_essential_web(self):
        self.assertIs(is_resolving(DEAD_TWIN), True)
        self.assertIs(is_resolving((0, ())), True)
        self.assertIs(is_resolving((3, ((0, 1, 0), (0, 2, 0)))), True)
        self.assertIs(is_resolving(EYE), False)
        self.assertIs(is_resolving(plain.FULL_FOUR), True)

    def test_delay_by_all_walks(self):
        found = set()
        for web in TINY:
            least = delay(web)
            found.add(least)
            # There are no more than 9 pairs of ends to pass.
            for d in range(6 if least is None else least + 2):
                self.assertIs(tells_first(web, d + 1), least is not None and d >= least)
        self.assertLessEqual({0, 1, None}, found)

    def test_long_delays_by_all_walks(self):
        found = set()
        for web in MORE:
            least = delay(web)
            found.add(least)
            if least is not None and least > 0:
                self.assertIs(tells_first(web, least), False)
                self.assertIs(tells_first(web, least + 1), True)
        self.assertLessEqual({0, 1, 2, 3, None}, found)

    def test_delays(self):
        self.assertEqual([delay(web) for web in ((0, ()), (3, ()), plain.DEAD, DEAD_TWIN, TURN)], [0] * 5)
        self.assertEqual([delay(web) for web in (LATE, LATER, EYE, LONG_EYE)], [1, 3, None, None])
        self.assertEqual([delay(web) for web in (BESIDE, LEFT, SWING, TWICE)], [0, 0, 0, 0])
        self.assertIsNone(delay((3, ((0, 0, 0), (0, 1, 0), (0, 2, 1), (1, 1, 0), (1, 2, 1), (2, 0, 1)))))
        many = 31
        chain = [(0, 1, 0), (0, 16, 0)] + [(k, k + 1, 0) for k in range(1, 15)] + [(15, 0, 1)]
        chain += [(k, k + 1, 0) for k in range(16, 30)] + [(30, 0, 2)]
        self.assertEqual(delay((many, tuple(sorted(chain)))), 15)


class Diamonds(unittest.TestCase):
    def test_by_all_walks(self):
        found = set()
        for web in TINY:
            pair = diamond(web)
            found.add(pair is None)
            if pair is None:
                self.assertFalse(any(has_twin_walks(web, length) for length in range(1, 7)))
            else:
                self.assertIs(shows_diamond(web, pair), True)
                self.assertTrue(has_twin_walks(web, len(pair[0])))
        self.assertEqual(found, {False, True})

    def test_pairs_are_shown(self):
        for web in MORE:
            pair = diamond(web)
            if pair is not None:
                one, other = pair
                self.assertNotEqual(one, other)
                self.assertEqual([start_of(web, one), end_of(web, one), labels_of(web, one)],
                                 [start_of(web, other), end_of(web, other), labels_of(web, other)])
                self.assertLessEqual({one, other}, set(core_walks(web, len(one))))
                for value in [(one, other), (other, one), (one * 1, other), (one + other[:0], other)]:
                    self.assertIs(shows_diamond(web, value), True)
                for value in [(one, one), (other, other), (one, other, one), (one,), [one, other], (list(one), other),
                              (one, list(other)), (one[:-1], other[:-1]) if len(one) == 2 else None, (one[1:], other),
                              (one, other[:-1]), (one, ()), ((), ()), one, {0: one, 1: other}, (one, other + other)]:
                    self.assertIs(shows_diamond(web, value), False)

    def test_all_small_values(self):
        for web in TINY[::3] + [EYE, LATE, SWING, TURN]:
            edges = essential(web)[1]
            indexes = range(-1, len(edges) + 1)
            for size in (1, 2):
                walks = set(core_walks(web, size))
                for one, other in product(list(product(indexes, repeat=size)), repeat=2):
                    is_one = one != other and {one, other} <= walks and labels_of(web, one) == labels_of(web, other) \
                        and start_of(web, one) == start_of(web, other) and end_of(web, one) == end_of(web, other)
                    self.assertIs(shows_diamond(web, (one, other)), is_one)

    def test_values_that_are_no_pairs(self):
        self.assertIs(shows_diamond(EYE, ((0, 0), (1, 2))), True)
        self.assertIs(shows_diamond(EYE, ((0, 0, 0, 1), (1, 2, 0, 1))), True)
        self.assertIs(shows_diamond(EYE, ((2, 0, 0), (2, 1, 2))), True)
        for value in [((0, 0), (1, True)), ((False, 0), (1, 2)), ((0, 0), (1, 3)), ((0, 0), (1, -1)), ((0, 0), (2, 1)),
                      ((0, 0), (1, 2, 0)), ((0, 0, 0), (1, 2)), ((0, 0), "12"), ("00", "12"), (None, (1, 2)),
                      ((0,), (1,)), ((0, 0), (1, "2")), ((0, 0), (1, (2,))), ((0, 0), (1, None)), ((), ()),
                      ((0, 0), (1, 10 ** 30)), ((), (0,)), ((0, 0), {0: 1}), 0, "", (), None, ((0, 0), [1, 2]),
                      [(0, 0), (1, 2)], ((0, 1), (1, 2)), (((0, 0), (1, 2)),), ((0, 0), (1, 2), ())]:
            self.assertIs(shows_diamond(EYE, value), False)
        # The same start, the same labels, and other ends; the same end, and other starts.
        self.assertIs(shows_diamond(BESIDE, ((0,), (1,))), False)
        self.assertIs(shows_diamond(SWING, ((1,), (2,))), False)
        for value in (None, ((0,), (0,)), ((), ()), (0, 0)):
            self.assertIs(shows_diamond((0, ()), value), False)

    def test_indexes_of_the_essential_web(self):
        # The first edge is a dead end, so that the indexes of the others begin with 0.
        web = (3, ((0, 1, 0), (1, 1, 0), (1, 2, 0), (2, 1, 0)))
        self.assertIs(shows_diamond(web, ((0, 0), (1, 2))), True)
        self.assertIs(shows_diamond(web, ((1, 1), (2, 3))), False)
        self.assertIs(shows_diamond(web, diamond(web)), True)
        for entry in sum(diamond(web), ()):
            self.assertIn(entry, (0, 1, 2))

    def test_diamonds(self):
        for web in ((0, ()), (2, ()), plain.DEAD, DEAD_TWIN, LATE, LATER, SWING, TURN, TWICE, plain.GOLDEN):
            self.assertIsNone(diamond(web))
        for web in (EYE, LONG_EYE, plain.BLUR):
            self.assertIsNotNone(diamond(web))

    def test_bad_web_comes_first(self):
        with self.assertRaises(BadWeb) as caught:
            shows_diamond((1, ((0, 0, 0), (0, 0, 0))), ((0,), (0,)))
        self.assertEqual(caught.exception.index, 1)


class OneToOne(unittest.TestCase):
    def test_by_pairs_of_walks(self):
        found = set()
        for web in MORE:
            states, _ = pair_web(web)
            self.assertIs(is_one_to_one(web), all(one == other for one, other in states))
            found.add(is_one_to_one(web))
        self.assertEqual(found, {False, True})

    def test_by_all_walks(self):
        for web in [web for web in TINY if web[0] <= 2 and len(web[1]) <= 3]:
            middle = {}
            for walk in core_walks(web, 9):
                middle.setdefault(labels_of(web, walk), set()).add(walk[4])
            self.assertIs(is_one_to_one(web), all(len(edges) == 1 for edges in middle.values()))

    def test_codes(self):
        for web in ((0, ()), plain.DEAD, plain.POINT, plain.GOLDEN, plain.FULL_FOUR, plain.SWAP,
                    LATE, LATER, DEAD_TWIN):
            self.assertIs(is_one_to_one(web), True)
        for web in (TURN, EYE, SWING, TWICE, plain.EVEN, plain.ring(2), LEFT, LONG_EYE):
            self.assertIs(is_one_to_one(web), False)

    def test_one_to_one_webs_have_a_delay_and_one_lift(self):
        for web in MORE:
            if is_one_to_one(web):
                self.assertIsNone(diamond(web))
                self.assertIsNotNone(delay(web))
                for word in plain.all_words(2, 3):
                    self.assertIn(lifts(web, word), (0, 1))


class Lifts(unittest.TestCase):
    def test_by_closed_walks(self):
        found = set()
        for web in [web for web in MORE if web[0] <= 4 and diamond(web) is None]:
            for length in (1, 2, 3):
                for word in plain.all_words(3, length)[::2 if length == 3 else 1]:
                    self.assertEqual(lifts(web, word), lifts_by_closed_walks(web, word))
                    found.add(lifts(web, word))
        self.assertLessEqual({0, 1, 2, 3}, found)

    def test_lifts(self):
        self.assertEqual([lifts(TURN, (0,)), lifts(TURN, (0, 1, 1)), lifts(TURN, (2,))], [2, 2, 0])
        self.assertEqual([lifts((0, ()), (0,)), lifts(plain.DEAD, (0,))], [0, 0])
        self.assertEqual([lifts(plain.EVEN, word) for word in ((0,), (1,), (0, 1), (0, 0, 1), (0,) * 60)],
                         [2, 1, 0, 1, 2])
        self.assertEqual([lifts(SWING, word) for word in ((0,), (1,), (0, 1))], [2, 2, 2])
        self.assertEqual([lifts(plain.ring(6), (0,) * many) for many in (1, 2, 6, 7)], [6] * 4)
        self.assertEqual([lifts(plain.ring(3, 0, 1), word) for word in ((0, 0, 1), (0, 1, 0), (1,), (0, 0, 1) * 20)],
                         [1, 1, 0, 1])
        self.assertEqual(lifts(BESIDE, (1,)), 2)
        self.assertEqual(lifts(plain.APART, (1,)), 1)

    def test_errors(self):
        for web in MORE:
            if diamond(web) is not None:
                self.assertRaises(NotFinite, lifts, web, (0,))
                self.assertRaises(NotFinite, lifts, web, (3,) * 60)
                self.assertRaises(BadWord, lifts, web, ())
                self.assertRaises(BadWord, lifts, web, (0,) * 61)
        self.assertRaises(BadWord, lifts, TURN, ())
        self.assertRaises(BadWord, lifts, (0, ()), ())
        self.assertRaises(BadWeb, lifts, (1, ((0, 0, 4),)), ())


class Degrees(WithLimits):
    def test_by_all_sets(self):
        found = set()
        for web in WHOLE:
            met = ends_met(web)
            least = min(map(len, met))
            self.assertEqual(degree(web), least)
            self.assertEqual(degree_word(web), [word for here, word in met.items() if len(here) == least][0])
            found.add(least)
        self.assertLessEqual({1, 2, 3, 4}, found)

    def test_by_all_words(self):
        for web in [web for web in WHOLE if web[0] <= 3]:
            states, edges = plain.core(web)
            ends = {}
            for length in range(7):
                for word in plain.all_words(3, length):
                    here = states
                    for label in word:
                        here = {end for start, end, mark in edges if start in here and mark == label}
                    if here:
                        ends[word] = len(here)
            self.assertEqual(degree(web), min(ends.values()))
            self.assertEqual(degree_word(web), min(ends, key=lambda word: (ends[word], len(word), word)))

    def test_least_number_of_lifts(self):
        for web in [web for web in WHOLE if web[0] <= 4]:
            labels = max(label for _, _, label in web[1]) + 1
            found = [lifts(web, word) for length in range(1, 6) for word in plain.all_words(labels, length)]
            self.assertEqual(min(many for many in found if many), degree(web))

    def test_covers_have_degree_1(self):
        for web in [web for web in MORE if is_whole(web)]:
            rows = cover(web)
            edges = [(start, end, label) for start, row in enumerate(rows) for label, end in enumerate(row)
                     if end is not None]
            if len(rows) <= 32 and len(edges) <= 100:
                self.assertEqual(degree((len(rows), tuple(sorted(edges)))), 1)

    def test_degrees(self):
        self.assertEqual([degree(web) for web in (TURN, SWING, plain.RING, plain.ring(6))], [2, 2, 4, 6])
        self.assertEqual([degree_word(web) for web in (TURN, SWING, plain.RING, plain.POINT)], [()] * 4)
        self.assertEqual([degree(web) for web in (plain.GOLDEN, plain.EVEN, plain.FULL, plain.POINT)], [1] * 4)
        self.assertEqual([degree_word(web) for web in (plain.GOLDEN, plain.EVEN)], [(0,), (1,)])
        self.assertEqual([degree_word(limits.slow(3)), degree(limits.slow(3))], [(0, 1, 1, 0), 1])
        self.assertEqual([degree_word(limits.slow(3, 2)), degree(limits.slow(3, 2))], [(0, 1, 1, 0), 2])
        self.assertEqual(degree((4, ((0, 1, 0), (1, 0, 0), (1, 0, 1), (2, 3, 0)))), 1)

    def test_errors(self):
        for function in (degree, degree_word):
            for web in MORE:
                if not is_whole(web):
                    self.assertRaises(NotWhole, function, web)
                elif not is_resolving(web):
                    self.assertRaises(NotResolving, function, web)
            for web in ((0, ()), (2, ()), plain.DEAD, plain.APART, BESIDE, TWICE):
                self.assertRaises(NotWhole, function, web)
            for web in (EYE, LATE, LONG_EYE):
                self.assertRaises(NotResolving, function, web)
            self.assertRaises(NotWhole, function, (4, ((0, 0, 0), (0, 1, 0), (1, 2, 0), (2, 2, 0), (2, 2, 1))))

    def test_too_many(self):
        for web in (limits.ENDS_2001, limits.slow(11), limits.slow(12), limits.slow(32), limits.slow(11, 2)):
            self.assertTrue(is_whole(web) and is_resolving(web))
            self.check_too_many(2000, degree, web)
            self.check_too_many(2000, degree_word, web)
        self.assertEqual([degree(limits.ENDS_2000), degree(limits.slow(10)), degree(limits.slow(10, 2))], [1, 1, 2])
        self.assertEqual(len(degree_word(limits.slow(10))), 81)

    def test_number_of_sets_met(self):
        for web, many in [(limits.ENDS_2000, 2000), (limits.ENDS_2001, 2001)]:
            for at, here in enumerate(ends_met(web), start=1):
                if len(here) == 1:
                    self.assertEqual(at, many)
                    break

    def test_words_behind_a_single_state_are_not_tried(self):
        many, edges = limits.slow(12)
        web = (many, tuple(sorted(edges + ((5, 7, 3),))))
        self.assertEqual([degree(web), degree_word(web)], [1, (3,)])
        # The errors of the web come before TooMany.
        self.assertRaises(NotResolving, degree, (many, tuple(sorted(edges + ((5, 7, 0),)))))
        self.assertRaises(NotWhole, degree, (many + 1, tuple(sorted(edges + ((12, 12, 0),)))))


if __name__ == "__main__":
    unittest.main()
