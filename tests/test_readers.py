"""Points 7 and 8: readers, the words that tell shifts apart, and covers."""

import unittest
from itertools import product
from math import gcd

from shiftcore.errors import BadWeb, NotWhole
from shiftcore.parts import is_whole
from shiftcore.readers import cover, is_mixing, magic_word, parting_word, reader, same_shift, stray_word
from tests import limits, plain
from tests.cases import WithLimits

SMALL = plain.SPECIAL + plain.sparse_webs(41, 60, 3, 2, 75) + plain.sparse_webs(42, 60, 4, 3, 55)
SMALL += plain.random_webs(43, 40, 4, 4, 2)
WHOLE = [web for web in SMALL if is_whole(web)]
APART = [web for web in SMALL if not is_whole(web)]
PAIRS = list(product(plain.SPECIAL, repeat=2))
PAIRS += list(product(plain.sparse_webs(44, 12, 3, 2, 70), plain.sparse_webs(45, 12, 3, 2, 85)))
PAIRS += [(web, other) for web in SMALL[::4] for other in plain.same_shift_webs(web)]


def all_sets(web):
    """Return the sets of the ends of all walks with the same labels, each with a word that leads to it."""
    states, edges = plain.core(web)
    found = {frozenset(states): ()} if states else {}
    queue = list(found)
    for here in queue:
        for label in range(4):
            there = frozenset(end for start, end, mark in edges if start in here and mark == label)
            if there and there not in found:
                found[there] = found[here] + (label,)
                queue.append(there)
    return found


def moved(web, here, label):
    """Return the ends of the edges of the essential web with a label that start in a set."""
    return frozenset(end for start, end, mark in plain.core(web)[1] if start in here and mark == label)


def are_unlike(web, one, other):
    """Return whether some word can be read from exactly one of two sets."""
    queue, met = [(one, other)], set()
    for here, there in queue:
        if bool(here) != bool(there):
            return True
        for label in range(4):
            pair = (moved(web, here, label), moved(web, there, label))
            if pair not in met and pair != (frozenset(), frozenset()):
                met.add(pair)
                queue.append(pair)
    return False


def table_web(rows):
    """Return the states and edges of a table."""
    return len(rows), tuple(sorted((s, e, a) for s, row in enumerate(rows) for a, e in enumerate(row) if e is not None))


def first_word(is_wanted, labels, most):
    """Return the first word, shorter, then smaller, of at most so many labels that is wanted, or None."""
    for length in range(most + 1):
        for word in plain.all_words(labels, length):
            if is_wanted(word):
                return word
    return None


class Reader(WithLimits):
    def test_reads_the_words_of_the_web(self):
        for web in SMALL:
            rows = reader(web)
            for length in range(5):
                read = plain.core_words(web, length)
                for word in plain.all_words(4, length):
                    self.assertIs(plain.table_reads(rows, word), word in read)

    def test_goes_along_with_all_sets(self):
        for web in SMALL:
            rows = reader(web)
            state_of = {}
            for here, word in all_sets(web).items():
                state = 0
                for label in word:
                    state = rows[state][label]
                state_of[here] = state
            for here, state in state_of.items():
                for label in range(4):
                    self.assertEqual(state_of.get(moved(web, here, label)), rows[state][label])
            self.assertEqual(set(state_of.values()), set(range(len(rows))))

    def test_has_the_fewest_states(self):
        for web in SMALL:
            kinds = []
            for here in all_sets(web):
                if all(are_unlike(web, here, other) for other in kinds):
                    kinds.append(here)
            self.assertEqual(len(reader(web)), len(kinds))

    def test_states_are_counted_as_they_are_met(self):
        for web in SMALL + [limits.SETS_200, limits.READER_41]:
            rows = reader(web)
            met = [0] if rows else []
            for row in rows:
                self.assertEqual(len(row), 4)
                for there in row:
                    if there is not None and there not in met:
                        met.append(there)
            self.assertEqual(met, list(range(len(rows))))

    def test_readers(self):
        for web in (plain.EMPTY, (5, ()), plain.DEAD):
            self.assertEqual(reader(web), ())
        self.assertEqual(reader(plain.POINT), ((0, None, None, None),))
        self.assertEqual(reader(plain.FULL_FOUR), ((0, 0, 0, 0),))
        self.assertEqual(reader(plain.SWAP), ((1, 2, None, None), (None, 2, None, None), (1, None, None, None)))
        self.assertEqual(reader((1, ((0, 0, 3),))), ((None, None, None, 0),))
        self.assertEqual(reader(plain.ring(9)), reader(plain.POINT))
        self.assertEqual(reader(plain.GOLDEN), ((0, 1, None, None), (0, None, None, None)))

    def test_same_for_all_webs_with_the_shift(self):
        for web in SMALL:
            for other in plain.same_shift_webs(web):
                self.assertEqual(reader(other), reader(web))

    def test_too_many_sets(self):
        self.assertEqual(len(all_sets(limits.SETS_200)), 200)
        self.assertEqual(len(reader(limits.SETS_200)), 200)
        for web in (limits.SETS_201, limits.WHOLE_SETS_201):
            self.assertEqual(len(all_sets(web)), 201)
            self.check_too_many(200, reader, web)


class Pairs(WithLimits):
    def test_same_shift(self):
        for one, other in PAIRS:
            (left, left_edges), (right, right_edges) = plain.core(one), plain.core(other)
            beside = [(s + 50, e + 50, a) for s, e, a in right_edges]
            both = (90, tuple(left_edges) + tuple(beside))
            parted = are_unlike(both, frozenset(left), frozenset(state + 50 for state in right))
            self.assertIs(same_shift(one, other), not parted)
            self.assertIs(same_shift(one, other), parting_word(one, other) is None)

    def test_same_shift_by_other_webs(self):
        for web in SMALL:
            for other in plain.same_shift_webs(web):
                self.assertIs(same_shift(web, other), True)
                self.assertIsNone(parting_word(other, web))
                self.assertIsNone(stray_word(web, other))

    def test_parting_and_stray_words_by_all_words(self):
        for one, other in PAIRS:
            marks = 1 + max([a for _, _, a in one[1] + other[1]], default=0)
            most = {1: 20, 2: 8, 3: 5, 4: 4}[marks]
            left, right = [set().union(*(plain.core_words(web, n) for n in range(most + 1))) for web in (one, other)]
            parting = first_word(lambda word: (word in left) != (word in right), marks, most)
            stray = first_word(lambda word: word in right and word not in left, marks, most)
            for found, expected in [(parting_word(one, other), parting), (stray_word(one, other), stray)]:
                if expected is not None or found is None:
                    self.assertEqual(found, expected)
                else:
                    self.assertGreater(len(found), most)

    def test_words(self):
        self.assertEqual(parting_word(plain.EMPTY, plain.POINT), ())
        self.assertEqual(parting_word(plain.POINT, plain.EMPTY), ())
        self.assertEqual(stray_word(plain.EMPTY, plain.POINT), ())
        self.assertIsNone(stray_word(plain.POINT, plain.EMPTY))
        self.assertIsNone(stray_word(plain.EMPTY, plain.DEAD))
        self.assertIsNone(parting_word(plain.EMPTY, plain.DEAD))
        self.assertIs(same_shift(plain.EMPTY, plain.DEAD), True)
        self.assertEqual(stray_word(plain.GOLDEN, plain.FULL), (1, 1))
        self.assertIsNone(stray_word(plain.FULL, plain.GOLDEN))
        self.assertEqual(parting_word(plain.FULL, plain.GOLDEN), (1, 1))
        self.assertEqual(stray_word(plain.GOLDEN, plain.EVEN), (1, 1))
        self.assertEqual(stray_word(plain.EVEN, plain.GOLDEN), (1, 0, 1))

    def test_long_words(self):
        self.assertEqual(parting_word(plain.ring(31, 0, 1), plain.ring(32, 0, 1)), (0,) * 31)
        self.assertEqual(stray_word(plain.ring(32, 0, 1), plain.ring(31, 0, 1)), (1,) + (0,) * 30 + (1,))

    def test_too_many_sets(self):
        for function in (same_shift, parting_word, stray_word):
            self.check_too_many(200, function, limits.SETS_201, plain.FULL)
            self.check_too_many(200, function, plain.EMPTY, limits.SETS_201)
            with self.assertRaises(BadWeb):
                function(limits.SETS_201, None)
        self.assertIs(same_shift(limits.SETS_200, limits.SETS_200), True)
        self.assertIsNone(parting_word(limits.SETS_200, limits.SETS_200))


def is_magic(rows, word):
    """Return whether a word can be read from some states of a reader and leads all of them to one state."""
    ends = set()
    for state in range(len(rows)):
        for label in word:
            state = None if state is None else rows[state][label]
        ends.add(state)
    return len(ends - {None}) == 1


class Covers(WithLimits):
    def test_magic_word_by_all_words(self):
        for web in WHOLE:
            rows = reader(web)
            found = magic_word(web)
            expected = first_word(lambda word: is_magic(rows, word), 4, 5)
            if expected is None:
                self.assertGreater(len(found), 5)
                self.assertTrue(is_magic(rows, found))
            else:
                self.assertEqual(found, expected)

    def test_magic_words(self):
        for web in (plain.POINT, plain.FULL_FOUR, plain.RING):
            self.assertEqual(magic_word(web), ())
        self.assertEqual(magic_word(plain.GOLDEN), (0,))
        self.assertEqual(magic_word(plain.ring(4, 0, 1)), (1,))
        self.assertEqual(magic_word(plain.ring(4, 1, 0)), (0,))
        self.assertEqual(magic_word(plain.CHARGED), (0, 0))

    def test_cover_stands_behind_the_magic_word(self):
        for web in WHOLE:
            rows = reader(web)
            state = 0
            for label in magic_word(web):
                state = rows[state][label]
            met = [state]
            for here in met:
                met.extend(there for there in dict.fromkeys(rows[here]) if there is not None and there not in met)
            names = {here: at for at, here in enumerate(met)}
            expected = [tuple(None if k is None else names[k] for k in rows[here]) for here in met]
            self.assertEqual(cover(web), tuple(expected))

    def test_cover_has_its_marks(self):
        for web in WHOLE:
            rows = cover(web)
            edges = table_web(rows)
            self.assertTrue(is_whole(edges))
            self.assertEqual(plain.core(edges), (set(range(len(rows))), list(edges[1])))
            for one in range(len(rows)):
                for other in range(one):
                    self.assertTrue(are_unlike(edges, frozenset([one]), frozenset([other])))
            for length in range(5):
                self.assertEqual(plain.core_words(edges, length), plain.core_words(web, length))
            for other in plain.same_shift_webs(web):
                if is_whole(other):
                    self.assertEqual(cover(other), rows)

    def test_covers(self):
        self.assertEqual(cover(plain.POINT), ((0, None, None, None),))
        self.assertEqual(cover(plain.GOLDEN), ((0, 1, None, None), (0, None, None, None)))
        self.assertEqual(cover(plain.SWAP), ((None, 1, None, None), (0, None, None, None)))
        self.assertEqual(len(cover(plain.ring(32, 0, 1))), 32)

    def test_mixing_by_closed_walks(self):
        for web in WHOLE:
            rows = cover(web)
            lengths = []
            for state in range(len(rows)):
                here = {state}
                for length in range(1, 3 * len(rows) + 1):
                    here = {there for k in here for there in rows[k] if there is not None}
                    if state in here:
                        lengths.append(length)
            self.assertIs(is_mixing(web), gcd(*lengths) == 1)

    def test_mixing(self):
        for web in (plain.POINT, plain.RING, plain.GOLDEN, plain.EVEN, plain.FULL):
            self.assertIs(is_mixing(web), True)
        for web in (plain.SWAP, plain.ring(2, 1, 0), plain.ring(32, 0, 1), plain.CHARGED):
            self.assertIs(is_mixing(web), False)

    def test_not_whole(self):
        for web in APART:
            for function in (magic_word, cover, is_mixing):
                with self.assertRaises(NotWhole):
                    function(web)

    def test_too_many(self):
        rows = reader(limits.TRIED_2000)
        self.assertTrue(is_magic(rows, magic_word(limits.TRIED_2000)))
        self.assertLessEqual(len(cover(limits.TRIED_2000)), len(rows))
        self.assertIsInstance(is_mixing(limits.TRIED_2000), bool)
        self.assertLessEqual(len(reader(limits.TRIED_2001)), 200)
        for function in (magic_word, cover, is_mixing):
            self.check_too_many(2000, function, limits.TRIED_2001)
            self.check_too_many(200, function, limits.WHOLE_SETS_201)
            # SETS_201 is not whole, and that is said first.
            with self.assertRaises(NotWhole):
                function(limits.SETS_201)

    def test_sets_that_are_tried(self):
        for web, many in [(limits.TRIED_2000, 2000), (limits.TRIED_2001, 2001)]:
            rows = reader(web)
            queue = [frozenset(range(len(rows)))]
            met = set(queue)
            for here in queue:
                for label in range(4):
                    there = frozenset(rows[state][label] for state in here) - {None}
                    if there and there not in met and not any(len(other) == 1 for other in met):
                        met.add(there)
                        queue.append(there)
            self.assertEqual(len(met), many)


if __name__ == "__main__":
    unittest.main()
