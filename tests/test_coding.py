"""Point 31: codes between shifts."""

import unittest
from functools import cache

from shiftcore.coding import carries, coded_web, covers, first_code, first_cover
from shiftcore.counting import count_periodic
from shiftcore.errors import BadCode, BadLength, BadWeb, TooMany
from shiftcore.growth import compare_growth
from shiftcore.readers import parting_word, stray_word
from shiftcore.recoding import blocks
from shiftcore.webs import essential
from tests import limits, plain
from tests.cases import WithLimits
from tests.plain import APART, EMPTY, EVEN, FULL, FULL_FOUR, GOLDEN, POINT, RING, SWAP, TWO_LOOPS, all_words
from tests.walk_ways import TINY, core_edges, core_walks, labels_of

NO_LABELS = [4, -1, True, False, None, "0", (0,), [0], 10 ** 30, {}]
# The shift of EVEN with its labels changed, and the ring of 0, 0, 1.
EVEN_CHANGED = (2, ((0, 0, 0), (0, 1, 1), (1, 0, 1)))
THIRDS = plain.ring(3, 0, 1)
SMALL = [EMPTY, (2, ()), POINT, FULL, GOLDEN, EVEN, SWAP, APART, THIRDS, TWO_LOOPS, plain.DEAD, EVEN_CHANGED]
SMALL += [web for web in TINY[40::9] if len(core_walks(web, 1)) <= 5]


@cache
def words_of(web, length):
    """Return the ascending tuple of the words of a length that a web reads."""
    return tuple(sorted(plain.core_words(web, length)))


@cache
def table_of(web, window, code):
    """Return the dict of the labels of a code table by the words of the window."""
    return dict(zip(words_of(web, window), code, strict=True))


def made_of(table, window, word):
    """Return the word that a code table makes of a word."""
    return tuple(table[word[at:at + window]] for at in range(len(word) - window + 1))


def made_words(web, window, code, length):
    """Return the set of the words of a length that a code table makes of the words that a web reads."""
    table = table_of(web, window, code)
    return {made_of(table, window, word) for word in words_of(web, length + window - 1)}


def is_carried(one, other, window, code):
    """Return whether a table makes words of the second web, by words of up to 7 labels."""
    return all(made_words(one, window, code, length) <= set(words_of(other, length)) for length in (0, 1, 2, 4, 7))


def is_covered(one, other, window, code):
    """Return whether a table makes just the words of the second web, by words of up to 7 labels."""
    return all(made_words(one, window, code, length) == set(words_of(other, length)) for length in (0, 1, 2, 4, 7))


def block_web(web, window, code):
    """Return the web of the walks of window - 1 edges, with the label of its word on each walk of one edge more."""
    table = table_of(web, window, code)
    if window == 1:
        return essential(web)[0], tuple(sorted({(start, end, table[(a,)]) for start, end, a in core_edges(web)}))
    states = sorted(core_walks(web, window - 1))
    return len(states), tuple(sorted((states.index(walk[:-1]), states.index(walk[1:]), table[labels_of(web, walk)])
                                     for walk in core_walks(web, window)))


def codes_for(web, window):
    """Return some code tables for a web."""
    many = len(words_of(web, window))
    return sorted({tuple((at * step + at // 2) % labels for at in range(many)) for step in (0, 1, 2, 3)
                   for labels in (1, 2, 3, 4)} | {tuple(range(many))[:4] + (0,) * (many - 4)})


class Coded(WithLimits):
    def test_walk_by_walk(self):
        windows = set()
        for web in SMALL:
            for window in (1, 2, 3):
                if len(words_of(web, window)) <= 12:
                    for code in codes_for(web, window):
                        self.assertEqual(coded_web(web, window, code), block_web(web, window, code))
                        windows.add(window)
        self.assertEqual(windows, {1, 2, 3})

    def test_words_that_the_code_makes(self):
        for web in SMALL:
            for window in (1, 2, 3):
                if len(words_of(web, window)) <= 12:
                    for code in codes_for(web, window):
                        for length in range(5):
                            self.assertEqual(plain.core_words(coded_web(web, window, code), length),
                                             made_words(web, window, code, length))

    def test_webs(self):
        self.assertEqual(coded_web(GOLDEN, 1, (0, 1)), GOLDEN)
        self.assertEqual(coded_web(GOLDEN, 1, (3, 2)), (2, ((0, 0, 3), (0, 1, 2), (1, 0, 3))))
        # Equal edges once.
        self.assertEqual(coded_web(FULL, 1, (2, 2)), (1, ((0, 0, 2),)))
        self.assertEqual(coded_web(FULL, 2, (0, 1, 1, 0)), (2, ((0, 0, 0), (0, 1, 1), (1, 0, 1), (1, 1, 0))))
        # The first label of each word gives the web of blocks.
        for web in SMALL:
            for window in (1, 2, 3):
                if len(words_of(web, window)) <= 12:
                    self.assertEqual(coded_web(web, window, tuple(word[0] for word in words_of(web, window))),
                                     blocks(web, window))
        for web in (EMPTY, (3, ()), plain.DEAD):
            self.assertEqual([coded_web(web, window, ()) for window in (1, 2, 3)], [EMPTY] * 3)

    def test_wrong_codes(self):
        for function in (coded_web, lambda *rest: carries(GOLDEN, EMPTY, *rest[1:]),
                         lambda *rest: covers(GOLDEN, EMPTY, *rest[1:])):
            for label in NO_LABELS:
                self.assertRaises(BadCode, function, GOLDEN, 1, (0, label))
                self.assertRaises(BadCode, function, GOLDEN, 2, (label, 0, 0))
                self.assertRaises(BadCode, function, GOLDEN, 1, label)
            for code in ((), (0,), (0, 0, 0), [0, 0], "01", {0: 0, 1: 1}):
                self.assertRaises(BadCode, function, GOLDEN, 1, code)
        self.assertRaises(BadCode, coded_web, GOLDEN, 3, (0, 0, 0, 0))
        self.assertEqual(coded_web(GOLDEN, 3, (0, 0, 0, 0, 0))[0], 5)
        self.assertRaises(BadCode, coded_web, EMPTY, 1, (0,))
        self.assertRaises(BadCode, coded_web, EMPTY, 1, None)

    def test_wrong_windows(self):
        for window in (0, 4, -1, True, None, "1", (1,), [1], 10 ** 30):
            for code in ((), (0, 1), None):
                self.assertRaises(BadLength, coded_web, GOLDEN, window, code)
                self.assertRaises(BadLength, coded_web, FULL_FOUR, window, code)
                self.assertRaises(BadLength, carries, GOLDEN, FULL, window, code)
                self.assertRaises(BadLength, covers, GOLDEN, FULL, window, code)
                self.assertRaises(BadWeb, coded_web, (1, None), window, code)
            self.assertRaises(BadLength, first_code, FULL_FOUR, FULL, window)
            self.assertRaises(BadLength, first_cover, FULL_FOUR, FULL, window)

    def test_too_many_words(self):
        self.assertEqual([len(words_of(limits.follows(many), 2)) for many in (6, 7, 12, 13)], [6, 7, 12, 13])
        code = (0, 1, 2, 3, 0, 1, 2, 3, 0, 1, 2, 3)
        self.assertEqual(coded_web(limits.follows(12), 2, code), block_web(limits.follows(12), 2, code))
        for code in ((0,) * 13, (0,) * 12, (), None, (None,) * 13):
            # The bound of the words stands ahead of the code.
            self.check_too_many(12, coded_web, limits.follows(13), 2, code)
            self.check_too_many(12, carries, limits.follows(13), FULL, 2, code)
            self.check_too_many(12, covers, limits.follows(13), FULL, 2, code)
        self.assertRaises(BadCode, coded_web, limits.follows(12), 2, (0,) * 13)
        self.check_too_many(12, coded_web, FULL_FOUR, 3, (0,) * 64)
        self.check_too_many(12, carries, limits.BLOCKS_33, FULL, 3, (0,))

    def test_too_many_walks(self):
        many, edges = coded_web(limits.ZEROS_100, 2, (3,))
        self.assertEqual([many, len(edges), edges[0][2]], [24, 100, 3])
        everywhere = (6, tuple((s, e, 0) for s in range(6) for e in range(6)))
        for web, window, most in [(limits.ZEROS_101, 2, 100), (limits.ZEROS_100, 3, 32), (everywhere, 2, 32)]:
            self.check_too_many(most, coded_web, web, window, (0,))
            self.check_too_many(most, carries, web, POINT, window, (0,))
            self.check_too_many(most, covers, web, POINT, window, (0,))
            self.check_too_many(most, first_code, web, POINT, window)
            self.check_too_many(most, first_cover, web, POINT, window)
            # The bounds of walks stand ahead of the bound of the readers, and behind the code.
            self.check_too_many(most, first_code, web, limits.SETS_201, window)
            self.check_too_many(most, carries, web, limits.SETS_201, window, (0,))
            self.assertRaises(BadCode, coded_web, web, window, (0, 0))
            self.assertRaises(BadCode, covers, web, POINT, window, None)


class Carried(WithLimits):
    def test_by_words(self):
        seen = set()
        for one in SMALL[::2]:
            for other in SMALL:
                for window in (1, 2, 3):
                    if len(words_of(one, window)) <= 6:
                        for code in codes_for(one, window)[::2]:
                            is_so = is_carried(one, other, window, code)
                            self.assertIs(carries(one, other, window, code), is_so)
                            self.assertIs(covers(one, other, window, code), is_covered(one, other, window, code))
                            seen.add((is_so, covers(one, other, window, code)))
        self.assertEqual(seen, {(False, False), (True, False), (True, True)})

    def test_codes(self):
        self.assertIs(covers(GOLDEN, GOLDEN, 1, (0, 1)), True)
        # Two neighboring letters 0 of GOLDEN, or one 1 and a letter 0 beside it, make EVEN.
        self.assertIs(covers(GOLDEN, EVEN, 2, (1, 0, 0)), True)
        self.assertIs(covers(FULL, FULL, 2, (0, 1, 1, 0)), True)
        self.assertIs(covers(FULL, GOLDEN, 2, (0, 0, 1, 0)), True)
        # Carried, but not covered.
        self.assertEqual([carries(GOLDEN, FULL, 1, (0, 1)), covers(GOLDEN, FULL, 1, (0, 1))], [True, False])
        self.assertEqual([carries(FULL, POINT, 3, (0,) * 8), covers(FULL, POINT, 3, (0,) * 8)], [True, True])
        # Not carried: all words of one label, but not of two.
        self.assertEqual([carries(FULL, GOLDEN, 1, (0, 1)), covers(FULL, GOLDEN, 1, (0, 1))], [False, False])
        self.assertEqual([carries(EMPTY, GOLDEN, 2, ()), covers(EMPTY, GOLDEN, 2, ())], [True, False])
        self.assertEqual([carries(GOLDEN, EMPTY, 1, (0, 0)), covers(GOLDEN, EMPTY, 1, (0, 0))], [False, False])
        self.assertEqual([carries(EMPTY, plain.DEAD, 3, ()), covers(EMPTY, plain.DEAD, 3, ())], [True, True])

    def test_what_is_carried_has_no_more_growth_and_keeps_periods(self):
        seen = set()
        for one in SMALL:
            for other in SMALL:
                for window in (1, 2):
                    if len(words_of(one, window)) <= 6:
                        for code in codes_for(one, window)[::3]:
                            if covers(one, other, window, code):
                                self.assertGreaterEqual(compare_growth(one, other), 0)
                                seen.add(compare_growth(one, other))
                            if carries(one, other, window, code):
                                self.check_periods(one, other)
        self.assertEqual(seen, {0, 1})

    def check_periods(self, one, other):
        """Check that the second shift has periodic sequences where the first one has them."""
        for length in (1, 2, 3, 6):
            try:
                counts = count_periodic(one, length), count_periodic(other, length)
            except TooMany:
                continue
            self.assertTrue(counts[0] == 0 or counts[1] > 0)

    def test_too_many_sets(self):
        for one, other, code in [(limits.SETS_201, FULL_FOUR, (0, 1, 2, 3)), (POINT, limits.SETS_201, (0,)),
                                 (EMPTY, limits.SETS_201, ()), (limits.SETS_201, EMPTY, (0, 1, 2, 3))]:
            self.check_too_many(200, carries, one, other, 1, code)
            self.check_too_many(200, covers, one, other, 1, code)
            self.assertRaises(BadCode, carries, one, other, 1, code + (0,))
            self.assertRaises(BadLength, covers, one, other, 0, code)
        self.assertIs(carries(limits.SETS_200, FULL_FOUR, 1, (0, 1, 2, 3)), True)
        self.assertIs(covers(limits.SETS_200, limits.SETS_200, 1, (0, 1, 2, 3)), True)
        self.assertIs(covers(limits.SETS_200, limits.SETS_200, 1, (0, 1, 3, 2)), False)
        self.assertIs(carries(POINT, limits.SETS_200, 1, (1,)), stray_word(limits.SETS_200, (1, ((0, 0, 1),))) is None)


class Firsts(WithLimits):
    def test_by_all_tables(self):
        found = set()
        for at, one in enumerate(SMALL):
            for other in SMALL[at % 3::3]:
                for window in (1, 2, 3):
                    many = len(words_of(one, window))
                    if many <= 3:
                        codes = all_words(4, many)
                        code = next((code for code in codes if is_carried(one, other, window, code)), None)
                        cover = next((code for code in codes if is_covered(one, other, window, code)), None)
                        self.assertEqual(first_code(one, other, window), code)
                        self.assertEqual(first_cover(one, other, window), cover)
                        found.add((code is None, cover is None, code == cover))
        self.assertEqual(found, {(True, True, True), (False, True, False), (False, False, True), (False, False, False)})

    def test_by_carries_and_covers(self):
        for one in (FULL, EVEN, TWO_LOOPS, EVEN_CHANGED):
            for other in (GOLDEN, EVEN, FULL, SWAP, APART, THIRDS):
                for window in (1, 2):
                    many = len(words_of(one, window))
                    if many > 4:
                        continue
                    codes = all_words(4, many)
                    self.assertEqual(first_code(one, other, window),
                                     next((code for code in codes if carries(one, other, window, code)), None))
                    self.assertEqual(first_cover(one, other, window),
                                     next((code for code in codes if covers(one, other, window, code)), None))

    def test_tables(self):
        self.assertEqual([first_code(FULL, GOLDEN, 1), first_cover(FULL, GOLDEN, 2), first_cover(GOLDEN, FULL, 1)],
                         [(0, 0), (0, 0, 1, 0), None])
        # A fixed point has no place to go to in a shift without one.
        self.assertEqual([first_code(FULL, SWAP, window) for window in (1, 2)], [None, None])
        self.assertEqual([first_code(SWAP, SWAP, window) for window in (1, 2, 3)], [(0, 1), (0, 1), (0, 1)])
        self.assertEqual(first_cover(SWAP, (2, ((0, 1, 3), (1, 0, 2))), 1), (2, 3))
        self.assertEqual([first_code(RING, (1, ((0, 0, 3),)), window) for window in (1, 2, 3)], [(3,)] * 3)
        self.assertEqual(first_cover(GOLDEN, EVEN, 1), None)
        self.assertEqual(first_cover(GOLDEN, EVEN, 2), (1, 0, 0))

    def test_webs_of_no_state(self):
        for window in (1, 2, 3):
            for one in (EMPTY, (2, ()), plain.DEAD):
                self.assertEqual([first_code(one, other, window) for other in (EMPTY, plain.DEAD, FULL)], [()] * 3)
                self.assertEqual([first_cover(one, other, window) for other in (EMPTY, plain.DEAD, FULL)],
                                 [(), (), None])
            self.assertEqual([first_code(POINT, EMPTY, window), first_cover(POINT, plain.DEAD, window)], [None] * 2)

    def test_six_words(self):
        six = limits.follows(6)
        self.assertEqual(first_code(six, GOLDEN, 2), (0,) * 6)
        code = first_cover(six, EVEN, 2)
        self.assertEqual(code, (1, 0, 0, 0, 0, 0))
        self.assertIs(is_covered(six, EVEN, 2, code), True)
        self.assertFalse(any(is_covered(six, EVEN, 2, other) for other in all_words(2, 6) if other < code))
        self.assertIsNone(first_cover(six, FULL, 2))
        self.assertEqual(first_code(limits.ZEROS_100, (1, ((0, 0, 2),)), 2), (2,))
        for other in (POINT, EMPTY, FULL_FOUR, limits.SETS_201):
            self.check_too_many(6, first_code, limits.follows(7), other, 2)
            self.check_too_many(6, first_cover, limits.follows(7), other, 2)
        self.check_too_many(6, first_code, FULL_FOUR, FULL, 2)
        self.check_too_many(6, first_code, FULL, FULL, 3)
        # The bound of the words stands ahead of the bound of the walks.
        self.check_too_many(6, first_cover, limits.BLOCKS_33, FULL, 3)
        self.assertRaises(BadWeb, first_code, limits.follows(7), None, 2)

    def test_too_many_sets(self):
        for function in (first_code, first_cover):
            for one in (POINT, EMPTY, FULL, limits.SETS_200):
                self.check_too_many(200, function, one, limits.SETS_201, 1)
        # As carries and covers for each table in turn: the first table makes a web whose reader is small.
        self.assertEqual(first_code(limits.SETS_201, FULL_FOUR, 1), (0, 0, 0, 0))
        self.check_too_many(200, covers, limits.SETS_201, FULL_FOUR, 1, (0, 1, 2, 3))
        tried = []
        for code in all_words(4, 4):
            tried.append(code)
            try:
                if covers(limits.SETS_201, FULL_FOUR, 1, code):
                    break
            except TooMany:
                tried.append(None)
                break
        self.assertIsNone(tried[-1])
        self.check_too_many(200, first_cover, limits.SETS_201, FULL_FOUR, 1)
        self.assertIsNone(parting_word(limits.SETS_200, coded_web(limits.SETS_200, 1, (0, 1, 2, 3))))
        self.assertEqual(first_code(limits.SETS_200, limits.SETS_200, 1), (0, 0, 0, 0))


if __name__ == "__main__":
    unittest.main()
