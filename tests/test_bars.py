"""Point 6: barred words and shifts of finite kind."""

import unittest
from itertools import product
from random import Random

from shiftcore.bars import is_finite_kind, least_bars, step, web_of_bars
from shiftcore.errors import BadBars, BadLetters
from shiftcore.readers import same_shift
from tests import limits, plain, wrong
from tests.cases import WithLimits


def has_bar(word, bars):
    """Return whether some bar stands in a word."""
    return any(word[at:at + len(bar)] == bar for bar in bars for at in range(len(word)))


def defined_web(letters, bars):
    """Return the web of point 6, its states named by their words until the end."""
    longest = max((len(bar) for bar in bars), default=1)
    edges = [(word[:-1], word[1:], word[-1]) for word in product(range(letters), repeat=longest)
             if not has_bar(word, bars)]
    while True:
        ends, starts = {edge[1] for edge in edges}, {edge[0] for edge in edges}
        kept = [edge for edge in edges if edge[0] in ends and edge[1] in starts]
        if kept == edges:
            number = {state: at for at, state in enumerate(sorted(starts))}
            return len(number), tuple(sorted((number[s], number[e], a) for s, e, a in edges))
        edges = kept


def random_bars(seed, many):
    """Return pairs of a number of letters and bars."""
    rng = Random(seed)
    found = []
    for _ in range(many):
        letters = rng.randint(1, 3)
        bars = [tuple(rng.randrange(letters) for _ in range(rng.randint(1, 4))) for _ in range(rng.randint(0, 8))]
        found.append((letters, tuple(bar for bar in bars if len(bar) > 1 or rng.random() < 0.3)))
    return found


BARRED = random_bars(31, 200)


def followed(web, states, word):
    """Return the ends of the walks with the labels of a word from some states."""
    for label in word:
        states = frozenset(end for start, end, mark in web[1] if start in states and mark == label)
    return states


def can_stray(web, less, more):
    """Return whether some word can be read from the states `more` but not from the states `less`."""
    queue, met = [(less, more)], set()
    while queue:
        pair = queue.pop()
        if pair[1] and not pair[0]:
            return True
        if pair[1] and pair not in met:
            met.add(pair)
            queue.extend((followed(web, pair[0], (a,)), followed(web, pair[1], (a,))) for a in range(4))
    return False


def plain_step(web):
    """Return the step by the sets of ends behind u + w and behind w, for all words w of a length at once."""
    states, edges = plain.core(web)
    inner = (web[0], edges)
    every = frozenset(states)
    sets, queue = {every}, [every]
    while queue:
        here = queue.pop()
        fresh = {followed(inner, here, (a,)) for a in range(4)} - sets - {frozenset()}
        sets |= fresh
        queue.extend(fresh)
    pairs = {(here, every) for here in sets}
    # Behind more labels than there are pairs, some pair would have come twice.
    for length in range(len(sets) ** 2 + 1):
        pairs = {pair for pair in pairs if pair[0] and can_stray(inner, *pair)}
        if not pairs:
            return length
        pairs = {(followed(inner, less, (a,)), followed(inner, more, (a,))) for less, more in pairs for a in range(4)}
    return None


def is_parted(web, length, most):
    """Return whether words u + w and w + v are read but u + w + v is not, w of a length, u and v of up to `most`."""
    read = {size: plain.core_words(web, size) for size in range(length + 2 * most + 1)}
    for left in range(most + 1):
        for right in range(most + 1):
            for front in read[left + length]:
                for v in product(range(4), repeat=right):
                    if front[left:] + v in read[length + right] and front + v not in read[left + length + right]:
                        return True
    return False


def defined_least_bars(web, most):
    """Return the least bars of at most so many labels, by trying all words."""
    found = []
    for length in range(most + 1):
        for word in plain.all_words(4, length):
            pieces = [word[a:b] for a in range(length + 1) for b in range(a, length + 1) if b - a < length]
            if not plain.is_read(web, word) and all(plain.is_read(web, piece) for piece in pieces):
                found.append(word)
    return tuple(found)


FINITE = [plain.EMPTY, (3, ()), plain.DEAD, plain.POINT, plain.FULL, plain.FULL_THREE, plain.FULL_FOUR, plain.GOLDEN,
          plain.RING, plain.SWAP, plain.TAILS, plain.APART, plain.BLUR, plain.ring(3, 0, 1)]
NOT_FINITE = [plain.EVEN, plain.CHARGED, plain.TWO_LOOPS]


class WebOfBars(unittest.TestCase):
    def test_by_definition(self):
        for letters, bars in BARRED:
            self.assertEqual(web_of_bars(letters, bars), defined_web(letters, bars))

    def test_reads_what_has_no_bar(self):
        for letters, bars in [(2, ((1, 1),)), (2, ((0, 1, 0), (1, 1))), (1, ()), (2, ((0,),)), (2, ((0, 1),)),
                              (2, ((0, 0, 0), (1, 1, 1))), (2, ((1, 0, 1), (0, 0)))]:
            web = web_of_bars(letters, bars)
            long_words = [word for word in product(range(letters), repeat=11) if not has_bar(word, bars)]
            for length in range(4):
                self.assertEqual(plain.core_words(web, length), {word[4:4 + length] for word in long_words})

    def test_edges(self):
        for letters in (1, 2, 3):
            self.assertEqual(web_of_bars(letters, ()), (1, tuple((0, 0, a) for a in range(letters))))
            self.assertEqual(web_of_bars(letters, tuple((a,) for a in range(letters))), (0, ()))
        self.assertEqual(web_of_bars(3, ((1,),)), (1, ((0, 0, 0), (0, 0, 2))))
        self.assertEqual(web_of_bars(2, ((1, 1), (1, 1))), web_of_bars(2, ((1, 1),)))
        self.assertEqual(web_of_bars(2, ((0, 1), (1, 1), (0,))), (0, ()))
        self.assertEqual(web_of_bars(1, ((0, 0, 0, 0),)), (0, ()))
        self.assertEqual(web_of_bars(2, ((1,), (0, 0))), (0, ()))

    def test_longest_bars(self):
        web = web_of_bars(3, ((2, 2, 2, 2),))
        self.assertEqual((web[0], len(web[1])), (27, 80))
        eight = tuple(product((0, 1), repeat=4))[:8]
        self.assertEqual(web_of_bars(2, eight), defined_web(2, eight))
        self.assertEqual(web_of_bars(2, ((0, 0, 0, 0),) * 8), web_of_bars(2, ((0, 0, 0, 0),)))
        # A word of one letter is a state of the longest bar's length less 1 where it stands alone.
        self.assertEqual(web_of_bars(2, ((1,), (0, 1, 0))), (1, ((0, 0, 0),)))

    def test_order_of_bars(self):
        for letters, bars in BARRED[:60]:
            self.assertEqual(web_of_bars(letters, bars), web_of_bars(letters, bars[::-1]))

    def test_letters_come_before_bars(self):
        for letters, bars in [(0, None), (4, ((9,),)), (True, ()), ("2", [])]:
            with self.assertRaises(BadLetters):
                web_of_bars(letters, bars)

    def test_letters_of_bars(self):
        for letters in (1, 2, 3):
            with self.assertRaises(BadBars) as caught:
                web_of_bars(letters, ((0,), (0, letters)))
            self.assertEqual(caught.exception.index, 1)
        for value, index in wrong.BARS:
            with self.assertRaises(BadBars) as caught:
                web_of_bars(2, value)
            self.assertEqual(caught.exception.index, index)


class FiniteKind(WithLimits):
    def test_step_by_sets(self):
        for web in plain.SPECIAL + plain.sparse_webs(32, 120, 3, 2, 75) + plain.sparse_webs(33, 80, 4, 3, 55):
            expected = plain_step(web)
            self.assertEqual(step(web), expected, web)
            self.assertIs(is_finite_kind(web), expected is not None)

    def test_step_by_words(self):
        for web in plain.sparse_webs(34, 80, 3, 2, 75):
            found = step(web)
            if found is None:
                for length in range(4):
                    self.assertTrue(is_parted(web, length, 3), web)
            elif found <= 4:
                self.assertFalse(is_parted(web, found, 3), web)
                self.assertTrue(found == 0 or is_parted(web, found - 1, 3), web)

    def test_kinds(self):
        for web in FINITE:
            self.assertIs(is_finite_kind(web), True)
        for web in NOT_FINITE:
            self.assertIs(is_finite_kind(web), False)
            self.assertIsNone(step(web))
            self.assertIsNone(least_bars(web))

    def test_steps(self):
        self.assertEqual([step(web) for web in (plain.EMPTY, plain.DEAD, plain.POINT, plain.FULL_FOUR)], [0] * 4)
        self.assertEqual([step(plain.ring(many, 0, 1)) for many in (2, 5, 32)], [1, 4, 31])
        self.assertEqual(step(web_of_bars(2, ((1, 0, 1, 1),))), 3)

    def test_webs_of_bars_are_of_finite_kind(self):
        for letters, bars in BARRED:
            web = web_of_bars(letters, bars)
            self.assertLess(step(web), max([len(bar) for bar in bars], default=1))
            for other in plain.same_shift_webs(web):
                self.assertEqual(step(other), step(web))
                self.assertEqual(least_bars(other), least_bars(web))

    def test_least_bars_by_words(self):
        for web in FINITE + plain.sparse_webs(35, 80, 3, 3, 60):
            found = step(web)
            if found is not None and found <= 3:
                self.assertEqual(least_bars(web), defined_least_bars(web, found + 2))

    def test_least_bars(self):
        self.assertEqual(least_bars(plain.EMPTY), ((),))
        self.assertEqual(least_bars(plain.DEAD), ((),))
        self.assertEqual(least_bars(plain.FULL_FOUR), ())
        self.assertEqual(least_bars(plain.POINT), ((1,), (2,), (3,)))
        self.assertEqual(least_bars(plain.ring(3, 0, 1)), ((2,), (3,), (1, 1), (0, 0, 0), (1, 0, 1)))
        long_ring = least_bars(plain.ring(32, 0, 1))
        self.assertEqual(long_ring[-2:], ((0,) * 32, (1,) + (0,) * 30 + (1,)))
        self.assertEqual(len(long_ring), 34)

    def test_least_bars_make_the_web(self):
        for letters, bars in BARRED:
            web = web_of_bars(letters, bars)
            found = least_bars(web)
            if web[0] == 0:
                self.assertEqual(found, ((),))
                continue
            inner = tuple(bar for bar in found if max(bar) < letters)
            self.assertEqual(set(found) - set(inner), {(a,) for a in range(letters, 4)})
            self.assertEqual(list(found), sorted(found, key=lambda bar: (len(bar), bar)))
            if len(inner) <= 8:
                self.assertTrue(same_shift(web_of_bars(letters, inner), web))

    def test_too_many_least_bars(self):
        found = least_bars(limits.marked(limits.GAPS_400))
        wanted = [(2, *inner, 2) for gap in limits.GAPS_400 for inner in product((0, 1), repeat=gap)]
        self.assertEqual(found, ((3,), *wanted))
        self.assertEqual(len(found), 400)
        for gaps in (limits.GAPS_401, (9,), tuple(range(20))):
            self.check_too_many(400, least_bars, limits.marked(gaps))
        self.assertEqual(step(limits.marked(limits.GAPS_401)), 9)

    def test_too_many_sets(self):
        for function in (is_finite_kind, step, least_bars):
            function(limits.SETS_200)
            for web in (limits.SETS_201, limits.WHOLE_SETS_201):
                self.check_too_many(200, function, web)


if __name__ == "__main__":
    unittest.main()
