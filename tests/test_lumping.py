"""Point 30: chains that are alike both ways, even parts and the coarsest ones."""

import unittest
from fractions import Fraction
from random import Random

from shiftcore.chains import steady
from shiftcore.errors import BadChain, BadParts, NotWhole
from shiftcore.lumping import coarsest, is_even, is_two_way
from tests import chain_ways as ways
from tests.chain_ways import HEAVY, LINE, MANY, ONE, SWAP, TURN, WHOLE, chances
from tests.test_chains import WRONG

# For chains of three states.
NO_PARTS = [(), ((0, 1),), ((0,), (1,)), ((0, 1, 2, 3),), ((0, 1), (1, 2)), ((0, 0, 1, 2),), ((1, 0), (2,)),
            ((2,), (0, 1)), ((0,), (2,), (1,)), ((0, 1), (2,), (2,)), ((0, 1), (2,), ()), ((), (0, 1, 2)),
            ((0, 1), (3,)), ((0, 1), (-1,)), ((0, True), (2,)), ((False, 1), (2,)), ((0, 1), (None,)), ((0, 1), ("2",)),
            ((0, 1), 2), ((0, 1), [2]), [(0, 1), (2,)], (0, 1, 2), ((0, 1), ((2,),)), ((0, 2, 1),), "012", ("01", "2"),
            None, True, 0, 3, {}, [], {0: (0, 1, 2)}, ((0, 1), {2: 2}), ((0, 1), (10 ** 30,)), ((0, 1, 2), ()),
            ((), ()), ((0, 1), (2, 2))]


def refinements(parts):
    """Return all parts whose tuples lie within those of given parts."""
    many = sum(map(len, parts))
    return [finer for finer in ways.all_parts(many) if ways.lies_within(finer, parts)]


class BothWays(unittest.TestCase):
    def test_by_steady_steps(self):
        for chain in WHOLE:
            found = [Fraction(*pair) for pair in steady(chain)]
            steps = chances(chain)
            states = range(len(chain))
            self.assertIs(is_two_way(chain), all(found[at] * steps[at][by] == found[by] * steps[by][at]
                                                 for at in states for by in states))

    def test_by_closed_rows(self):
        seen = set()
        for chain in WHOLE:
            steps = chances(chain)
            is_so = True
            for row in ways.closed_rows(len(chain)):
                there = back = Fraction(1)
                for one, other in zip(row, row[1:] + row[:1]):
                    there *= steps[one][other]
                    back *= steps[other][one]
                is_so = is_so and there == back
            self.assertIs(is_two_way(chain), is_so)
            seen.add((len(chain), is_so))
        self.assertLessEqual({(size, is_so) for size in (3, 4, 5) for is_so in (False, True)}, seen)

    def test_chains(self):
        for chain in (ONE, SWAP, LINE, ((0, 1), (1, 1)), ((0, 20), (1, 19)), ((0, 3, 3), (3, 0, 3), (3, 3, 0))):
            self.assertIs(is_two_way(chain), True)
        for chain in (TURN, HEAVY, ((0, 2, 1), (1, 0, 2), (2, 1, 0))):
            self.assertIs(is_two_way(chain), False)

    def test_errors(self):
        for chain in MANY:
            if not ways.is_whole(chain):
                self.assertRaises(NotWhole, is_two_way, chain)
        for chain in WRONG:
            self.assertRaises(BadChain, is_two_way, chain)


class Even(unittest.TestCase):
    def test_by_all_sums(self):
        seen = set()
        for chain in MANY:
            for parts in ways.all_parts(len(chain)):
                self.assertIs(is_even(chain, parts), ways.is_even(chain, parts))
                if 1 < len(parts) < len(chain):
                    seen.add(is_even(chain, parts))
        self.assertEqual(seen, {False, True})

    def test_whole_and_single_parts_are_even(self):
        for chain in MANY:
            self.assertIs(is_even(chain, (tuple(range(len(chain))),)), True)
            self.assertIs(is_even(chain, tuple((state,) for state in range(len(chain)))), True)

    def test_any_value(self):
        for value in NO_PARTS:
            for chain in (TURN, ((0, 1, 1), (2, 0, 0), (1, 0, 0))):
                self.assertIs(is_even(chain, value), False)
        self.assertIs(is_even(ONE, ((0,),)), True)
        for value in (None, (), ((),), (0,), ((False,),), [(0,)], ((0,), (0,)), ((0,), ())):
            self.assertIs(is_even(ONE, value), False)

    def test_chains(self):
        chain = ((0, 1, 1), (2, 0, 0), (1, 0, 0))
        self.assertIs(is_even(chain, ((0,), (1, 2))), True)
        self.assertIs(is_even(chain, ((0, 1), (2,))), False)
        # Only the parts of a row count: 1 of 3 and 2 of 6.
        self.assertIs(is_even(((1, 1, 1), (3, 1, 2), (4, 1, 1)), ((0,), (1, 2))), False)
        self.assertIs(is_even(((1, 1, 1), (2, 1, 1), (6, 2, 4)), ((0,), (1, 2))), True)

    def test_wrong_chains(self):
        for chain in WRONG:
            self.assertRaises(BadChain, is_even, chain, ((0,),))
            self.assertRaises(BadChain, is_even, chain, None)


class Coarsest(unittest.TestCase):
    def test_by_all_parts(self):
        sizes = set()
        for at, chain in enumerate(MANY):
            rng = Random(at)
            given = ways.all_parts(len(chain))
            for parts in rng.sample(given, min(len(given), 6)):
                even = [finer for finer in refinements(parts) if ways.is_even(chain, finer)]
                fewest = min(map(len, even))
                best = [finer for finer in even if len(finer) == fewest]
                self.assertEqual([coarsest(chain, parts)], best)
                sizes.add((len(parts) < fewest, fewest < len(chain)))
        self.assertEqual(len(sizes), 4)

    def test_even_parts_stay(self):
        for chain in MANY:
            for parts in ways.all_parts(len(chain)):
                found = coarsest(chain, parts)
                self.assertIs(is_even(chain, found), True)
                self.assertEqual(coarsest(chain, found), found)
                self.assertEqual(found == parts, ways.is_even(chain, parts))

    def test_chains(self):
        self.assertEqual(coarsest(((0, 1, 1), (2, 0, 0), (1, 0, 0)), ((0,), (1, 2))), ((0,), (1, 2)))
        self.assertEqual(coarsest(TURN, ((0, 1), (2,))), ((0,), (1,), (2,)))
        self.assertEqual(coarsest(LINE, ((0, 4), (1, 2, 3))), ((0, 4), (1, 3), (2,)))
        self.assertEqual(coarsest(LINE, ((0, 1, 2, 3, 4),)), ((0, 1, 2, 3, 4),))
        # Round by round one more state is cut off.
        self.assertEqual(coarsest(LINE, ((0,), (1, 2, 3, 4))), ((0,), (1,), (2,), (3,), (4,)))
        self.assertEqual(coarsest(ONE, ((0,),)), ((0,),))

    def test_wrong_parts(self):
        for value in NO_PARTS:
            self.assertRaises(BadParts, coarsest, TURN, value)
        for chain in WRONG:
            self.assertRaises(BadChain, coarsest, chain, ((0,),))
            self.assertRaises(BadChain, coarsest, chain, None)
        # The chain need not be whole.
        self.assertEqual(coarsest(((1, 0), (0, 1)), ((0, 1),)), ((0, 1),))


if __name__ == "__main__":
    unittest.main()
