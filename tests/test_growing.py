"""Point 27: words that grow."""

import unittest
from itertools import product
from random import Random

from shiftcore.errors import BadLength, BadTable, BadWord
from shiftcore.growing import counts, grown, is_mingling, pieces
from shiftcore.matrices import traces
from tests import plain
from tests.cases import WithLimits


def random_tables(seed, many, letters, longest):
    """Return so many growth tables; the same ones for the same seed."""
    rng = Random(seed)
    return [tuple(tuple(rng.randrange(letters) for _ in range(rng.randint(1, longest))) for _ in range(letters))
            for _ in range(many)]


WORDS = [word for length in (1, 2) for word in plain.all_words(2, length)]
TWO = list(product(WORDS, repeat=2))
STILL = ((0,), (1,))
SWAP = ((1,), (0,))
TURN = ((1,), (2,), (0,))
GOLDEN = ((0, 1), (0,))
TWINS = ((0, 1), (1, 0))
TWICE = ((0, 0), (1, 1))
# Letter 1 never comes back to letter 0.
ONE_WAY = ((0, 1), (1, 1))
# The letters take turns.
TURNS = ((1, 1), (0,))
RICH = ((0, 1, 2), (1, 2, 0, 0), (2, 2, 0, 1))
FULL = ((0, 0, 0, 0), (1, 1, 1, 1))
# All letters stand together only after five times.
SLOW = ((1,), (2,), (0, 1))
NAMED = [STILL, SWAP, TURN, GOLDEN, TWINS, TWICE, ONE_WAY, TURNS, RICH, FULL, SLOW]
TABLES = TWO + NAMED + random_tables(1, 60, 2, 4) + random_tables(2, 60, 3, 4) + random_tables(3, 60, 3, 2)
WRONG = [(), ((0,),), ((0,), (1,), (2,), (0,)), ((0,), ()), ((0,), (2,)), ((0,), (-1,)), ((0,), (0,) * 5),
         ((0,), (True,)), ((0,), (None,)), ((0,), 0), ((0,), [1]), [(0,), (1,)], ((0,), "1"), ((0,), ("1",)), None, 0,
         "01", True, {}, {0: (0,), 1: (1,)}, ((0,), ((0,),)), ((0,), (10 ** 30,)), ((0,), (1,), (3,)), ((0,), None)]


def once(table, word):
    """Return what a word becomes, letter by letter."""
    found = []
    for letter in word:
        found += table[letter]
    return tuple(found)


def steps_of(table, word, times, most):
    """Return the words that a word becomes after 0, 1, .. times, as long as they have at most so many letters."""
    found = [word]
    while len(found) <= times and sum(len(table[letter]) for letter in found[-1]) <= most:
        found.append(once(table, found[-1]))
    return found


def pieces_by_ends(table, length, times):
    """Return the set of the pieces of a length, at least 1, of what the letters become after up to so many times.

    What a letter becomes is what the letters of its word become one time less, side by side: of each of them only the
    pieces, the first and the last letters are kept.
    """
    most = length - 1
    grown_letters = [((letter,)[:most], (letter,)[:most], {(letter,)} if most == 0 else set())
                     for letter in range(len(table))]
    found = set()
    for _ in range(times):
        for _, _, inside in grown_letters:
            found |= inside
        grown_letters = [side_by_side([grown_letters[letter] for letter in entry], length) for entry in table]
    return found


def side_by_side(summaries, length):
    """Return the first and the last letters and the set of pieces of words side by side, of which these are known."""
    head, tail, found = (), (), set()
    for first, last, inside in summaries:
        seam = tail + first
        found = found | inside | {seam[at:at + length] for at in range(len(seam) - length + 1)}
        head = (head + first)[:length - 1]
        tail = (tail + last)[len(tail + last) - min(len(tail + last), length - 1):]
    return head, tail, found


class Growing(WithLimits):
    def test_letter_by_letter(self):
        rng = Random(27)
        too_many = set()
        for table in TABLES:
            for size in (0, 1, 2, 5, 20):
                word = tuple(rng.randrange(len(table)) for _ in range(size))
                found = steps_of(table, word, 12, 5000)
                for times in (0, 1, 2, 5, 12):
                    too_many.add(times < len(found))
                    if times < len(found):
                        self.assertEqual(grown(table, word, times), found[times])
                    else:
                        self.check_too_many(5000, grown, table, word, times)
        self.assertEqual(too_many, {False, True})

    def test_words(self):
        self.assertEqual(grown(GOLDEN, (0,), 4), (0, 1, 0, 0, 1, 0, 1, 0))
        self.assertEqual(grown(TWINS, (0,), 3), (0, 1, 1, 0, 1, 0, 0, 1))
        self.assertEqual([grown(SWAP, (0, 1, 1), times) for times in (0, 1, 2, 11, 12)],
                         [(0, 1, 1), (1, 0, 0), (0, 1, 1), (1, 0, 0), (0, 1, 1)])
        self.assertEqual([grown(TURN, (0, 1, 2), times) for times in (0, 1, 12)], [(0, 1, 2), (1, 2, 0), (0, 1, 2)])
        self.assertEqual(grown(RICH, (1,), 1), (1, 2, 0, 0))
        for table in TABLES[::5]:
            self.assertEqual([grown(table, (), times) for times in (0, 1, 12)], [()] * 3)
            self.assertEqual(grown(table, (1, 0), 0), (1, 0))

    def test_bounds(self):
        self.assertEqual(len(grown(FULL, (0,), 6)), 4096)
        self.check_too_many(5000, grown, FULL, (0,), 7)
        self.check_too_many(5000, grown, FULL, (0,), 12)
        self.assertEqual(len(grown(TWICE, (0,) * 19, 8)), 4864)
        self.check_too_many(5000, grown, TWICE, (0,) * 20, 8)
        # Exactly 5000 and 5001 letters after 10 times.
        self.assertEqual(len(grown(((2, 2), (2,), (0, 0, 1)), (1, 2), 10)), 5000)
        self.assertEqual(len(grown(((0, 1), (0, 0, 0)), (1,), 9)), 2175)
        self.check_too_many(5000, grown, ((0, 1), (0, 0, 0)), (1,), 10)
        self.check_too_many(5000, grown, ((0, 1), (0, 0, 0)), (1,), 11)

    def test_wrong_words(self):
        for word in [(0,) * 21, (2,), (-1,), (0, True), (False,), ("0",), (None,), [0], "0", None, 0, True, {}, ((0,),),
                     (10 ** 30,), (0, 3)]:
            self.assertRaises(BadWord, grown, GOLDEN, word, 1)
            self.assertRaises(BadWord, grown, FULL, word, 13)
            self.assertRaises(BadTable, grown, (), word, 13)
        self.assertRaises(BadWord, grown, TURN, (3,), 1)
        self.assertEqual(grown(TURN, (2,), 1), (0,))

    def test_wrong_times(self):
        for times in (-1, 13, True, None, "1", (1,), [1], {}, 10 ** 30):
            self.assertRaises(BadLength, grown, GOLDEN, (0,), times)
            # The number of letters comes behind all other errors.
            self.assertRaises(BadLength, grown, FULL, (0,) * 20, times)

    def test_wrong_tables(self):
        for table in WRONG:
            self.assertRaises(BadTable, grown, table, (0,), 1)
            self.assertRaises(BadTable, grown, table, None, None)
            self.assertRaises(BadTable, counts, table)
            self.assertRaises(BadTable, is_mingling, table)
            self.assertRaises(BadTable, pieces, table, 2)
            self.assertRaises(BadTable, pieces, table, 7)


class Counts(unittest.TestCase):
    def test_by_counting(self):
        for table in TABLES:
            found = counts(table)
            self.assertEqual([len(found), len(found[0])], [len(table)] * 2)
            for letter, entry in enumerate(table):
                for other in range(len(table)):
                    self.assertEqual(found[letter][other], len([here for here in entry if here == other]))

    def test_matrices(self):
        self.assertEqual([counts(STILL), counts(SWAP), counts(GOLDEN)],
                         [((1, 0), (0, 1)), ((0, 1), (1, 0)), ((1, 1), (1, 0))])
        self.assertEqual(counts(RICH), ((1, 1, 1), (2, 1, 1), (1, 1, 2)))
        self.assertEqual(counts(FULL), ((4, 0), (0, 4)))
        # It is a matrix for other functions.
        self.assertEqual(traces(counts(GOLDEN), 5), (1, 3, 4, 7, 11))

    def test_letters_after_some_times(self):
        for table in TABLES[::3]:
            rows = counts(table)
            two = [[sum(rows[j][k] * rows[k][by] for k in range(len(rows))) for by in range(len(rows))]
                   for j in range(len(rows))]
            for letter in range(len(table)):
                word = grown(table, (letter,), 2)
                self.assertEqual([word.count(other) for other in range(len(table))], two[letter])


class Mingling(unittest.TestCase):
    def test_by_powers(self):
        found = set()
        for table in TABLES:
            letters = [set(entry) for entry in table]
            is_so = False
            for _ in range(20):
                is_so = is_so or all(len(here) == len(table) for here in letters)
                letters = [{letter for other in here for letter in table[other]} for here in letters]
            self.assertIs(is_mingling(table), is_so)
            found.add((len(table), is_so))
        self.assertEqual(found, {(2, False), (2, True), (3, False), (3, True)})

    def test_tables(self):
        for table in (GOLDEN, TWINS, RICH, SLOW):
            self.assertIs(is_mingling(table), True)
        for table in (STILL, SWAP, TURN, TWICE, ONE_WAY, TURNS, FULL):
            self.assertIs(is_mingling(table), False)
        self.assertIs(is_mingling(((1, 1), (0, 0))), False)
        self.assertIs(is_mingling(((1, 2), (0,), (0, 0))), False)
        self.assertIs(is_mingling(((0, 1), (1, 2), (2,))), False)


class Pieces(unittest.TestCase):
    def test_by_long_words(self):
        for table in NAMED:
            found = set()
            for letter in range(len(table)):
                for word in steps_of(table, (letter,), 40, 3000):
                    found |= {word[at:at + 6] for at in range(len(word))}
            for length in range(7):
                # Behind the last places of a word the pieces are shorter.
                cut = {piece[:length] for piece in found if len(piece) >= length}
                self.assertEqual(pieces(table, length), tuple(sorted(cut)))

    def test_by_ends_of_long_words(self):
        for table in TWO[::3] + TABLES[len(TWO)::2]:
            for length in (1, 2, 3, 6):
                self.assertEqual(pieces(table, length), tuple(sorted(pieces_by_ends(table, length, 25))))

    def test_pieces(self):
        self.assertEqual([pieces(GOLDEN, length) for length in (0, 1, 2, 3)],
                         [((),), ((0,), (1,)), ((0, 0), (0, 1), (1, 0)), ((0, 0, 1), (0, 1, 0), (1, 0, 0), (1, 0, 1))])
        self.assertEqual([len(pieces(GOLDEN, length)) for length in range(7)], [1, 2, 3, 4, 5, 6, 7])
        self.assertEqual([len(pieces(TWINS, length)) for length in range(7)], [1, 2, 4, 6, 10, 12, 16])
        for table in (STILL, SWAP, TURN):
            self.assertEqual(pieces(table, 0), ((),))
            self.assertEqual(pieces(table, 1), tuple((letter,) for letter in range(len(table))))
            self.assertEqual([pieces(table, length) for length in (2, 3, 6)], [()] * 3)
        self.assertEqual(pieces(TWICE, 6), ((0,) * 6, (1,) * 6))
        self.assertEqual(pieces(ONE_WAY, 3), ((0, 1, 1), (1, 1, 1)))
        # Words that stay short.
        self.assertEqual([pieces(((0,), (0, 0, 0, 0)), length) for length in (3, 4, 5)], [((0,) * 3,), ((0,) * 4,), ()])
        self.assertEqual(pieces(((1, 0), (1,)), 4), ((1, 1, 1, 0), (1, 1, 1, 1)))

    def test_wrong_lengths(self):
        for length in (-1, 7, True, None, "1", (1,), [1], {}, 10 ** 30):
            self.assertRaises(BadLength, pieces, GOLDEN, length)


if __name__ == "__main__":
    unittest.main()
