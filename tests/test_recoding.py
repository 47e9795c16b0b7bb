"""Point 26: webs of walks, straightened webs and windows."""

import unittest
from collections import Counter

from shiftcore.codes import delay, is_one_to_one, is_resolving
from shiftcore.errors import BadLength, BadWeb, NotResolving
from shiftcore.growth import compare_walks
from shiftcore.readers import same_shift
from shiftcore.recoding import blocks, straightened, window
from shiftcore.webs import essential
from tests import limits, plain
from tests.cases import WithLimits
from tests.walk_ways import (BESIDE, DEAD_TWIN, EYE, LATE, LATER, LEFT, LONG_EYE, MORE, SWING, TINY, TURN, TWICE,
                             core_edges, core_walks, end_of, labels_of, start_of)

LONG_LATE = (31, tuple(sorted([(0, 1, 0), (0, 16, 0), (15, 0, 1), (30, 0, 2)] + [(k, k + 1, 0) for k in range(1, 15)]
                              + [(k, k + 1, 0) for k in range(16, 30)])))
# The third edge tells on which of two sides a walk goes.
SIDES = (6, ((0, 1, 0), (0, 3, 0), (1, 2, 0), (2, 5, 2), (3, 4, 0), (4, 5, 3), (5, 0, 1)))


def walk_web(web, length):
    """Return the states and the edges of the web of walks, walk by walk, with length at least 2."""
    states = sorted(core_walks(web, length - 1))
    edges = [(states.index(walk[:-1]), states.index(walk[1:]), core_edges(web)[walk[0]][2])
             for walk in core_walks(web, length)]
    return len(states), tuple(sorted(edges))


def closed_walks(web, length):
    """Return how often each label word belongs to a closed walk of so many edges."""
    return Counter(labels_of(web, walk) for walk in core_walks(web, length) if start_of(web, walk) == end_of(web, walk))


def read_from(web, length):
    """Return the set of the pairs of a state and a word of so many labels that can be read from it."""
    if length == 0:
        return {(state, ()) for state in range(essential(web)[0])}
    return {(start_of(web, walk), labels_of(web, walk)) for walk in core_walks(web, length)}


def straight(web, late):
    """Return the straightened web of a web with a delay, by the walks of one edge more than the delay."""
    states = sorted(read_from(web, late))
    edges = set()
    for walk in core_walks(web, late + 1):
        word = labels_of(web, walk)
        first = core_edges(web)[walk[0]]
        edges.add((states.index((first[0], word[:-1])), states.index((first[1], word[1:])), word[-1]))
    return len(states), tuple(sorted(edges))


def tells_middle(web, late):
    """Return whether walks of 2n + 1 edges with the same labels have the same edge in the middle."""
    middle = {}
    for walk in core_walks(web, 2 * late + 1):
        if middle.setdefault(labels_of(web, walk), walk[late]) != walk[late]:
            return False
    return True


class Blocks(WithLimits):
    def test_walk_by_walk(self):
        for web in MORE:
            for length in (2, 3, 4):
                many, edges = walk_web(web, length)
                if many > 32:
                    self.check_too_many(32, blocks, web, length)
                elif len(edges) > 100:
                    self.check_too_many(100, blocks, web, length)
                else:
                    self.assertEqual(blocks(web, length), (many, edges))

    def test_length_1(self):
        for web in MORE + [limits.BLOCKS_33, limits.slow(32)]:
            self.assertEqual(blocks(web, 1), essential(web))

    def test_words_and_shift(self):
        for web in TINY[::2] + [LATE, LATER, plain.EVEN, plain.GOLDEN]:
            for length in (1, 2, 3, 4):
                if len(core_walks(web, length - 1) if length > 1 else ()) <= 32 and len(core_walks(web, length)) <= 100:
                    found = blocks(web, length)
                    for size in range(5):
                        self.assertEqual(plain.core_words(found, size), plain.core_words(web, size))
                    self.assertIs(same_shift(found, web), True)
                    self.assertEqual(compare_walks(found, web), 0)
                    self.assertEqual([closed_walks(found, size) for size in (1, 2, 3)],
                                     [closed_walks(web, size) for size in (1, 2, 3)])

    def test_webs(self):
        self.assertEqual(blocks(plain.GOLDEN, 2), (3, ((0, 0, 0), (0, 1, 0), (1, 2, 1), (2, 0, 0), (2, 1, 0))))
        self.assertEqual(blocks(plain.POINT, 4), plain.POINT)
        self.assertEqual(blocks(plain.FULL, 2), (2, ((0, 0, 0), (0, 1, 0), (1, 0, 1), (1, 1, 1))))
        for length in (1, 2, 3, 4):
            for web in ((0, ()), (3, ()), plain.DEAD):
                self.assertEqual(blocks(web, length), (0, ()))

    def test_bounds(self):
        many, edges = blocks(limits.BLOCKS_32_100, 3)
        self.assertEqual([many, len(edges)], [32, 100])
        self.check_too_many(100, blocks, limits.BLOCKS_32_101, 3)
        self.check_too_many(32, blocks, limits.BLOCKS_33, 3)
        self.assertEqual([len(core_walks(web, length)) for web in
                          (limits.BLOCKS_32_100, limits.BLOCKS_32_101, limits.BLOCKS_33) for length in (2, 3)],
                         [32, 100, 32, 101, 33, 101])
        self.assertEqual(blocks(plain.FULL_FOUR, 3)[0], 16)
        self.check_too_many(32, blocks, plain.FULL_FOUR, 4)
        everywhere = (5, tuple((s, e, a) for s in range(5) for e in range(5) for a in range(4)))
        for length in (2, 3, 4):
            self.check_too_many(32, blocks, everywhere, length)
        # The bounds ask about the walks of the essential web alone.
        many, edges = limits.BLOCKS_32_100
        web = (many + 2, edges + tuple((3, e, a) for e in range(3) for a in range(4)) + ((4, 3, 0),))
        self.assertEqual(blocks(web, 3), blocks(limits.BLOCKS_32_100, 3))

    def test_lengths(self):
        for length in (0, 5, -1, True, None, "1", (1,), 10 ** 30):
            self.assertRaises(BadLength, blocks, plain.FULL_FOUR, length)
            self.assertRaises(BadLength, blocks, (0, ()), length)
            self.assertRaises(BadWeb, blocks, (1, ((0, 0, 4),)), length)


class Straightened(WithLimits):
    def test_walk_by_walk(self):
        found = set()
        for web in MORE:
            late = delay(web)
            found.add(late)
            if late is None:
                self.assertRaises(NotResolving, straightened, web)
                continue
            many, edges = straight(web, late)
            if many > 32:
                self.check_too_many(32, straightened, web)
            elif len(edges) > 100:
                self.check_too_many(100, straightened, web)
            else:
                self.assertEqual(straightened(web), (many, edges))
        self.assertLessEqual({0, 1, 2, 3, None}, found)

    def test_keeps_walks_and_words(self):
        for web in TINY + [LATE, LATER, LONG_LATE, SIDES]:
            if delay(web) is None:
                continue
            made = straightened(web)
            self.assertIs(is_resolving(made), True)
            self.assertEqual(essential(made), made)
            self.assertIs(same_shift(made, web), True)
            self.assertIs(is_one_to_one(made), is_one_to_one(web))
            self.assertEqual(straightened(made), made)
            if web != LONG_LATE:
                self.assertEqual([closed_walks(made, length) for length in (1, 2, 3, 4)],
                                 [closed_walks(web, length) for length in (1, 2, 3, 4)])
                self.assertEqual([plain.core_words(made, length) for length in range(5)],
                                 [plain.core_words(web, length) for length in range(5)])

    def test_webs_of_delay_0_stay(self):
        for web in [plain.GOLDEN, plain.EVEN, TURN, SWING, LEFT, BESIDE, DEAD_TWIN, limits.slow(32), (0, ()), (4, ()),
                    plain.DEAD, plain.TAILS, (5, tuple((s, e, e % 4) for s in range(5) for e in range(4)))]:
            self.assertEqual(delay(web), 0)
            self.assertEqual(straightened(web), essential(web))

    def test_webs(self):
        self.assertEqual(straightened(LATE), (3, ((0, 1, 1), (0, 2, 2), (1, 0, 0), (2, 0, 0))))
        # From each state just one word of 15 labels can be read.
        self.assertEqual(delay(LONG_LATE), 15)
        many, edges = straightened(LONG_LATE)
        self.assertEqual([many, len(edges)], [31, 32])

    def test_no_delay(self):
        for web in (EYE, LONG_EYE, plain.BLUR, (3, ((0, 0, 0), (0, 1, 0), (0, 2, 1), (1, 1, 0), (1, 2, 1), (2, 0, 1)))):
            self.assertIsNone(delay(web))
            self.assertRaises(NotResolving, straightened, web)
        self.assertRaises(BadWeb, straightened, (1, ((0, 0, 4),)))

    def test_bounds(self):
        for web, late, many in [(limits.AHEAD_32, 3, 32), (limits.AHEAD_33, 4, 33), (limits.ahead(False), 1, 26),
                                (limits.ahead(True), 1, 26)]:
            self.assertEqual([delay(web), len(read_from(web, late))], [late, many])
        self.assertEqual(straightened(limits.AHEAD_32)[0], 32)
        self.check_too_many(32, straightened, limits.AHEAD_33)
        self.assertEqual([len(straight(limits.ahead(more), 1)[1]) for more in (False, True)], [100, 101])
        self.assertEqual(straightened(limits.ahead(False)), straight(limits.ahead(False), 1))
        self.check_too_many(100, straightened, limits.ahead(True))
        # So many states and labels ahead that no list of them all could be made.
        many = 30
        edges = [(k, k + 1, a) for k in range(13) for a in (0, 1)] + [(13, 0, 0), (13, 14, 0), (27, 0, 3)]
        edges += [(k, k + 1, a) for k in range(14, 27) for a in (0, 1)]
        self.check_too_many(32, straightened, (many, tuple(sorted(edges + [(28, 29, 0)]))))


class Windows(unittest.TestCase):
    def test_by_pairs_of_walks(self):
        found = set()
        for web in TINY + [LATE, SIDES]:
            least = window(web)
            found.add(least)
            self.assertEqual(least is None, not is_one_to_one(web))
            for late in range(4 if least is None else min(least + 2, 5)):
                if len(core_walks(web, late + 1)) < 60:
                    self.assertIs(tells_middle(web, late), least is not None and late >= least, (web, late))
        self.assertLessEqual({0, 1, 2, None}, found)

    def test_longer_ones(self):
        found = set()
        for web in MORE:
            least = window(web)
            self.assertEqual(least is None, not is_one_to_one(web))
            if least is not None and least <= 3 and len(core_walks(web, 3)) < 60:
                self.assertIs(tells_middle(web, least), True)
                if least > 0:
                    self.assertIs(tells_middle(web, least - 1), False)
                found.add(least)
        self.assertLessEqual({0, 1, 2, 3}, found)

    def test_windows(self):
        self.assertEqual([window(web) for web in ((0, ()), (3, ()), plain.DEAD, plain.POINT, plain.FULL_FOUR)], [0] * 5)
        self.assertEqual([window(web) for web in (plain.SWAP, plain.GOLDEN, LATE, SIDES)], [0, 1, 1, 2])
        self.assertEqual([window(web) for web in (TURN, EYE, SWING, TWICE, plain.EVEN, plain.RING, LEFT)], [None] * 7)
        # In a ring of 32 states with one label 1, the edge farthest from it is told last.
        self.assertEqual([window(plain.ring(many, 0, 1)) for many in (2, 3, 4, 5, 31, 32)], [0, 1, 1, 2, 15, 15])
        # The labels 1 and 2 tell the first edges behind state 0, 15 edges later.
        self.assertEqual(window(LONG_LATE), 15)

    def test_bad_web(self):
        self.assertRaises(BadWeb, window, (1, ((0, 0, 4),)))


if __name__ == "__main__":
    unittest.main()
