"""Points 2 and 3: essential webs, words, and webs made of two webs."""

import unittest
from itertools import product

from shiftcore.errors import BadLength, BadWeb
from shiftcore.webs import essential, joint, reads, union, words
from tests import plain
from tests.cases import WithLimits

# Found by search: webs that read just as many words of 7 labels as may be, and one more.
WORDS_5000 = (4, (
    (0, 0, 3), (0, 1, 2), (0, 2, 0), (0, 2, 1), (0, 3, 0), (1, 0, 2), (1, 3, 2), (2, 0, 3),
    (2, 1, 0), (2, 1, 3), (2, 2, 0), (3, 0, 3), (3, 1, 0), (3, 2, 3), (3, 3, 0), (3, 3, 2)))
WORDS_5001 = (4, (
    (0, 2, 2), (1, 0, 2), (1, 0, 3), (1, 2, 0), (1, 2, 3), (1, 3, 0), (1, 3, 1), (2, 0, 0),
    (2, 3, 0), (2, 3, 2), (2, 3, 3), (3, 1, 0), (3, 1, 3), (3, 2, 3)))
HUNDRED = (5, tuple((s, e, a) for s in range(5) for e in range(5) for a in range(4)))
LONG_RING = plain.ring(32, 0, 1)


def renumbered(states, edges):
    """Return the web of some states under any names and edges between them."""
    number = {state: at for at, state in enumerate(sorted(states))}
    return len(number), tuple(sorted((number[s], number[e], a) for s, e, a in edges))


def walked_core(web):
    """Return the essential web by its words: the edges in the middle of long walks."""
    many, edges = web
    middles = {walk[many] for walk in plain.walks(web, 2 * many + 1)}
    states = {edge[0] for edge in middles} | {edge[1] for edge in middles}
    return renumbered(states, [edge for edge in edges if edge in middles])


def pair_core(one, other):
    """Return the essential web of pairs, from walks over pairs of states."""
    (left, left_edges), (right, right_edges) = plain.core(one), plain.core(other)
    pairs = sorted(product(left, right))
    edges = [((a, b), (c, d), label) for a, c, label in left_edges for b, d, mark in right_edges if label == mark]
    numbered = renumbered(pairs, edges)
    return renumbered(*plain.core(numbered))


def ladder(many, label):
    """Return an essential web with loops at its first and last state and edges with the label 0 upwards."""
    upward = [(s, e, 0) for s in range(many) for e in range(s + 1, many)]
    return many, tuple(sorted(upward + [(0, 0, label), (many - 1, many - 1, label)]))


class Essential(unittest.TestCase):
    def test_by_walks(self):
        for web in plain.random_webs(1, 150, 3, 2, 2):
            self.assertEqual(essential(web), walked_core(web))

    def test_by_endless_states(self):
        for web in plain.SPECIAL + plain.random_webs(2, 300, 8, 4, 2):
            self.assertEqual(essential(web), renumbered(*plain.core(web)))

    def test_edges(self):
        for web in [(0, ()), (1, ()), (32, ()), plain.DEAD, (2, ((0, 1, 3),))]:
            self.assertEqual(essential(web), (0, ()))
        for web in [plain.POINT, plain.FULL_FOUR, HUNDRED, LONG_RING]:
            self.assertEqual(essential(web), web)

    def test_states_keep_their_order(self):
        self.assertEqual(essential(plain.TAILS), (2, ((0, 0, 0), (0, 1, 1), (1, 0, 0))))
        self.assertEqual(essential((32, ((31, 31, 2),))), (1, ((0, 0, 2),)))

    def test_tails_that_fall_away_one_by_one(self):
        line = tuple((k, k + 1, 0) for k in range(31))
        self.assertEqual(essential((32, line)), (0, ()))
        self.assertEqual(essential((32, tuple(sorted(line + ((15, 15, 1),))))), (1, ((0, 0, 1),)))
        bridge = tuple(sorted(line + ((5, 5, 1), (20, 20, 1))))
        self.assertEqual(essential((32, bridge))[0], 16)


class Words(WithLimits):
    def test_reads_by_walks(self):
        for web in plain.SPECIAL + plain.random_webs(3, 60, 4, 3, 2):
            for length in range(4):
                read = plain.core_words(web, length)
                for word in plain.all_words(4, length):
                    self.assertIs(reads(web, word), word in read)

    def test_words_by_walks(self):
        for web in plain.SPECIAL + plain.random_webs(4, 120, 5, 4, 2):
            for length in range(5):
                self.assertEqual(words(web, length), tuple(sorted(plain.core_words(web, length))))

    def test_word_without_labels(self):
        for web in plain.SPECIAL + plain.random_webs(5, 40, 4, 2, 1):
            self.assertIs(reads(web, ()), essential(web)[0] > 0)
            self.assertEqual(words(web, 0), ((),) if essential(web)[0] > 0 else ())

    def test_long_words(self):
        self.assertIs(reads(plain.GOLDEN, (0, 1) * 30), True)
        self.assertIs(reads(plain.GOLDEN, (0,) * 58 + (1, 1)), False)
        self.assertIs(reads(LONG_RING, (0,) * 31 + (1,) + (0,) * 28), True)
        self.assertIs(reads(LONG_RING, (0,) * 60), False)
        self.assertIs(reads(plain.EMPTY, (0,) * 60), False)

    def test_words_of_eight_labels(self):
        for web in [plain.GOLDEN, plain.EVEN, plain.BLUR, LONG_RING]:
            self.assertEqual(words(web, 8), tuple(sorted(plain.core_words(web, 8))))
        self.assertEqual(words(plain.EMPTY, 8), ())
        self.assertEqual(words(plain.FULL, 8), tuple(plain.all_words(2, 8)))

    def test_labels_of_states_left_out_are_not_read(self):
        self.assertIs(reads(plain.TAILS, (2,)), False)
        self.assertIs(reads(plain.TAILS, (3,)), False)
        self.assertEqual(words(plain.DEAD, 1), ())

    def test_too_many_words(self):
        self.assertEqual(len(words(WORDS_5000, 7)), 5000)
        self.assertEqual(words(WORDS_5000, 7), tuple(sorted(plain.core_words(WORDS_5000, 7))))
        self.assertEqual(len(plain.core_words(WORDS_5001, 7)), 5001)
        self.assertEqual(len(words(plain.FULL_FOUR, 6)), 4096)
        for web, length in [(WORDS_5001, 7), (plain.FULL_FOUR, 7), (plain.FULL_FOUR, 8), (HUNDRED, 8)]:
            self.check_too_many(5000, words, web, length)


class Pairs(WithLimits):
    def test_joint_by_pairs_of_states(self):
        webs = [web for web in plain.SPECIAL if essential(web)[0] <= 5] + plain.random_webs(6, 12, 4, 3, 2)
        for one, other in product(webs, webs):
            self.assertEqual(joint(one, other), pair_core(one, other))

    def test_joint_reads_common_pieces(self):
        for one, other in product(plain.random_webs(7, 12, 2, 2, 2), repeat=2):
            both = joint(one, other)
            common = plain.core_words(one, 10) & plain.core_words(other, 10)
            for length in range(3):
                middles = {word[4:4 + length] for word in common}
                self.assertEqual(set(words(both, length)), middles)

    def test_joint_edges(self):
        self.assertEqual(joint(plain.EMPTY, plain.FULL), (0, ()))
        self.assertEqual(joint(plain.FULL, plain.DEAD), (0, ()))
        self.assertEqual(joint(plain.POINT, (1, ((0, 0, 1),))), (0, ()))
        self.assertEqual(joint(plain.FULL, plain.GOLDEN), plain.GOLDEN)

    def test_joint_too_many_pairs(self):
        self.assertEqual(joint(plain.ring(4), plain.ring(8))[0], 32)
        self.assertEqual(joint(plain.POINT, plain.ring(32)), plain.ring(32))
        self.check_too_many(32, joint, plain.ring(3), plain.ring(11))
        self.check_too_many(32, joint, plain.ring(6), plain.ring(6, 1, 1))
        self.check_too_many(32, joint, plain.ring(32), (2, ((0, 0, 1), (1, 1, 1))))
        # Pairs are counted before they are left out, but states outside of the essential webs make none.
        self.assertEqual(joint((32, ((5, 5, 0),)), (32, ((7, 7, 0),))), plain.POINT)

    def test_joint_too_many_edges(self):
        grid = (5, tuple((s, e, 0) for s in range(5) for e in range(5)))
        four = (2, ((0, 0, 0), (0, 1, 0), (1, 0, 0), (1, 1, 0)))
        self.assertEqual(len(joint(grid, four)[1]), 100)
        self.assertEqual(len(joint(HUNDRED, plain.FULL_FOUR)[1]), 100)
        more = (6, tuple(sorted(grid[1] + ((5, 5, 0),))))
        self.check_too_many(100, joint, more, four)
        self.check_too_many(100, joint, HUNDRED, (3, ((0, 0, 0), (1, 1, 0), (1, 1, 1), (1, 1, 2), (2, 2, 3))))
        # Edges between pairs that lie on no endless walk count, too.
        self.assertEqual(joint(ladder(5, 1), ladder(5, 2)), (0, ()))
        self.check_too_many(100, joint, ladder(5, 1), ladder(6, 2))

    def test_too_many_pairs_come_first(self):
        grid = (6, tuple((s, e, 0) for s in range(6) for e in range(6)))
        self.check_too_many(32, joint, grid, grid)
        full = (20, tuple((s, e, 0) for s in range(20) for e in range(5)))
        self.check_too_many(32, union, full, full)

    def test_too_many_comes_behind_the_other_errors(self):
        for function in (joint, union):
            for other in (None, (1, None), (True, ())):
                with self.assertRaises(BadWeb) as caught:
                    function(HUNDRED, other)
                self.assertIsNone(caught.exception.index)
            with self.assertRaises(BadWeb) as caught:
                function((32, ()), (32, ((0, 0, 0), (0, 0, 0))))
            self.assertEqual(caught.exception.index, 1)
        for length in (9, -1, True, None):
            with self.assertRaises(BadLength):
                words(plain.FULL_FOUR, length)

    def test_union(self):
        for one, other in product(plain.SPECIAL, repeat=2):
            moved = tuple((s + one[0], e + one[0], a) for s, e, a in other[1])
            self.assertEqual(union(one, other), (one[0] + other[0], one[1] + moved))
            for length in range(3):
                both = plain.core_words(one, length) | plain.core_words(other, length)
                self.assertEqual(set(words(union(one, other), length)), both)

    def test_union_too_many(self):
        self.assertEqual(union((16, ()), (16, ((15, 15, 3),))), (32, ((31, 31, 3),)))
        self.assertEqual(union(plain.EMPTY, (32, ())), (32, ()))
        self.check_too_many(32, union, (16, ()), (17, ()))
        self.check_too_many(32, union, (32, ()), (1, ()))
        self.assertEqual(len(union((5, HUNDRED[1][:99]), plain.POINT)[1]), 100)
        self.check_too_many(100, union, HUNDRED, plain.POINT)
        self.check_too_many(100, union, plain.POINT, HUNDRED)


if __name__ == "__main__":
    unittest.main()
