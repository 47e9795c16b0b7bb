"""Points 29 and 30: steady probabilities, expected steps, what is met first, and the mean time."""

import unittest
from fractions import Fraction
from math import gcd

from shiftcore.chains import chance_first, expected_steps, mean_time, steady
from shiftcore.errors import BadChain, BadState, NotWhole
from tests import chain_ways as ways
from tests.chain_ways import ENDS, LINE, MANY, ONE, SPREAD, SWAP, TURN, WHOLE, chances, reach

WRONG = [(), ((0,),), ((0, 0), (1, 1)), ((1, 1), (0, 0)), ((1,), (1,)), ((1, 1),), ((1, 1), (1,)), ((21,),), ((-1,),),
         ((1, -1), (1, 1)), ((True,),), ((1, True), (1, 1)), ((1, None), (1, 1)), (("1",),), ((1.0,),), [(1,)], ([1],),
         ((1,) * 6,) * 6, ((1,) * 5,) * 4, None, 0, True, "1", {}, {0: (1,)}, ((10 ** 30,),), (((1,),),), ((1, 2), 3)]


class Ratios(unittest.TestCase):
    def check_ratio(self, pair, worth):
        """Check that a pair is a ratio in lowest terms."""
        self.assertEqual(Fraction(*pair), worth)
        self.assertEqual([gcd(*pair), pair[1] > 0, type(pair), len(pair)], [1, True, tuple, 2])
        self.assertEqual([type(entry) for entry in pair], [int, int])


class Steady(Ratios):
    def test_unchanged_by_a_step(self):
        for chain in WHOLE:
            found = [Fraction(*pair) for pair in steady(chain)]
            steps = chances(chain)
            self.assertEqual([len(found), sum(found)], [len(chain), 1])
            self.assertTrue(all(part > 0 for part in found))
            for state, part in enumerate(found):
                self.assertEqual(part, sum(found[at] * steps[at][state] for at in range(len(chain))))
                self.check_ratio(steady(chain)[state], part)

    def test_by_trees(self):
        for chain in WHOLE:
            if len(chain) <= 4:
                found = ways.tree_sums(chain)
                self.assertEqual([Fraction(*pair) for pair in steady(chain)], [part / sum(found) for part in found])

    def test_chains(self):
        self.assertEqual([steady(ONE), steady(((20,),))], [((1, 1),)] * 2)
        self.assertEqual([steady(SWAP), steady(TURN)], [((1, 2), (1, 2)), ((1, 3),) * 3])
        self.assertEqual(steady(((0, 1), (1, 1))), ((1, 3), (2, 3)))
        self.assertEqual(steady(((0, 20), (1, 19))), ((1, 21), (20, 21)))
        self.assertEqual(steady(LINE), ((1, 5),) * 5)
        # Only the parts of a row count.
        self.assertEqual(steady(((0, 7), (4, 4))), steady(((0, 1), (1, 1))))

    def test_not_whole(self):
        for chain in MANY:
            if not ways.is_whole(chain):
                self.assertRaises(NotWhole, steady, chain)
                self.assertRaises(NotWhole, mean_time, chain)
        for chain in (ENDS, SPREAD, ((1, 0), (0, 1)), ((0, 1), (0, 1)), ((1, 1), (0, 1))):
            self.assertRaises(NotWhole, steady, chain)

    def test_wrong_chains(self):
        for chain in WRONG:
            for function in (steady, mean_time):
                self.assertRaises(BadChain, function, chain)
            self.assertRaises(BadChain, expected_steps, chain, 0, 0)
            self.assertRaises(BadChain, expected_steps, chain, None, None)
            self.assertRaises(BadChain, chance_first, chain, 0, 0, 0)
            self.assertRaises(BadChain, chance_first, chain, None, None, None)


class Steps(Ratios):
    def test_one_step_and_then_the_next_state(self):
        found = set()
        for chain in MANY:
            many = len(chain)
            steps = chances(chain)
            for goal in range(many):
                worths = [expected_steps(chain, start, goal) for start in range(many)]
                for start in range(many):
                    # Every state that is met before the goal must reach it.
                    met = {start} | reach(chain, start, (goal,) if goal != start else ())
                    if goal == start:
                        met = {start} | {state for first in reach_once(chain, start) if first != goal
                                         for state in {first} | reach(chain, first, (goal,))}
                    may_fail = any(goal not in reach(chain, state) for state in met if state != goal or state == start)
                    self.assertEqual(worths[start] is None, may_fail)
                    found.add((may_fail, start == goal))
                    if not may_fail:
                        worth = 1 + sum(steps[start][by] * Fraction(*worths[by]) for by in range(many)
                                        if by != goal and steps[start][by])
                        self.check_ratio(worths[start], worth)
                        self.assertGreaterEqual(worth, 1)
        self.assertEqual(len(found), 4)

    def test_by_chances_to_be_on_the_way(self):
        # The expected number is the sum of the chances that more than 0, 1, 2, .. steps are needed.
        for chain in MANY[:60]:
            for start in range(len(chain)):
                for goal in range(len(chain)):
                    worth = expected_steps(chain, start, goal)
                    if worth is not None and Fraction(*worth) < 12:
                        total = sum_of_chances(chain, start, goal, 400)
                        self.assertLess(abs(total - worth[0] / worth[1]), 1e-6)

    def test_back_to_the_start(self):
        for chain in WHOLE:
            for state, (top, bottom) in enumerate(steady(chain)):
                self.assertEqual(expected_steps(chain, state, state), (bottom, top))

    def test_chains(self):
        self.assertEqual([expected_steps(ONE, 0, 0), expected_steps(SWAP, 0, 1), expected_steps(SWAP, 0, 0)],
                         [(1, 1), (1, 1), (2, 1)])
        self.assertEqual([expected_steps(((1, 1), (0, 1)), *pair) for pair in ((0, 1), (1, 0), (1, 1), (0, 0))],
                         [(2, 1), None, (1, 1), None])
        self.assertEqual([expected_steps(LINE, 0, 4), expected_steps(LINE, 4, 0)], [(20, 1), (20, 1)])
        # The goal may be met, but one of the two ends is never left.
        self.assertEqual([expected_steps(ENDS, 0, 1), expected_steps(ENDS, 0, 2), expected_steps(ENDS, 1, 1)],
                         [None, None, (1, 1)])
        self.assertEqual([expected_steps(SPREAD, start, 3) for start in range(5)],
                         [(8, 3), (11, 3), (17, 6), (3, 2), (1, 1)])
        self.assertEqual(expected_steps(((20, 1), (1, 20)), 0, 1), (21, 1))

    def test_wrong_states(self):
        for state in (-1, 3, True, False, None, "0", (0,), [0], {}, 10 ** 30):
            self.assertRaises(BadState, expected_steps, ENDS, state, 0)
            self.assertRaises(BadState, expected_steps, ENDS, 0, state)
            self.assertRaises(BadState, expected_steps, ENDS, state, None)


def reach_once(chain, start):
    """Return the states to which one step may lead."""
    return [by for by, entry in enumerate(chain[start]) if entry]


def sum_of_chances(chain, start, goal, most):
    """Return, nearly, the sum of the chances that a walk has not come to the goal after 0, 1, .., most steps."""
    steps = [[float(worth) for worth in row] for row in chances(chain)]
    here = {start: 1.0}
    total = 0.0
    for _ in range(most):
        total += sum(here.values())
        after = {}
        for state, chance in here.items():
            for by, worth in enumerate(steps[state]):
                if worth and by != goal:
                    after[by] = after.get(by, 0.0) + chance * worth
        here = after
    return total


class First(Ratios):
    def test_one_step_and_then_the_next_state(self):
        found = set()
        for chain in MANY:
            many = len(chain)
            steps = chances(chain)
            for one in range(many):
                for other in range(many):
                    if one == other:
                        continue
                    worths = [chance_first(chain, start, one, other) for start in range(many)]
                    for start in range(many):
                        if start in (one, other):
                            worth = Fraction(start == one)
                        elif one not in reach(chain, start, (one, other)):
                            worth = Fraction(0)
                        else:
                            worth = sum(steps[start][by] * Fraction(*worths[by]) for by in range(many))
                        self.check_ratio(worths[start], worth)
                        self.assertTrue(0 <= worth <= 1)
                        found.add(worth if worth in (0, 1) else 2)
        self.assertEqual(found, {0, 1, 2})

    def test_either_is_met_first_in_whole_chains(self):
        for chain in WHOLE:
            for one in range(len(chain)):
                for other in range(one):
                    for start in range(len(chain)):
                        self.assertEqual(Fraction(*chance_first(chain, start, one, other))
                                         + Fraction(*chance_first(chain, start, other, one)), 1)

    def test_chains(self):
        self.assertEqual([chance_first(ENDS, start, 1, 2) for start in range(3)], [(1, 3), (1, 1), (0, 1)])
        self.assertEqual([chance_first(LINE, start, 0, 4) for start in range(5)],
                         [(1, 1), (3, 4), (1, 2), (1, 4), (0, 1)])
        # State 0 is not met from an end that is never left, and not behind the other state.
        self.assertEqual([chance_first(ENDS, 1, 0, 2), chance_first(TURN, 0, 2, 1), chance_first(TURN, 0, 1, 2)],
                         [(0, 1), (0, 1), (1, 1)])
        self.assertEqual(chance_first(SWAP, 0, 0, 1), (1, 1))

    def test_wrong_states(self):
        for state in (-1, 3, True, False, None, "0", (0,), [0], {}, 10 ** 30):
            self.assertRaises(BadState, chance_first, ENDS, state, 0, 1)
            self.assertRaises(BadState, chance_first, ENDS, 0, state, 1)
            self.assertRaises(BadState, chance_first, ENDS, 0, 1, state)
        for start in range(3):
            for state in range(3):
                self.assertRaises(BadState, chance_first, ENDS, start, state, state)
        self.assertRaises(BadState, chance_first, ONE, 0, 0, 0)


class MeanTimes(Ratios):
    def test_the_same_from_every_state(self):
        for chain in WHOLE:
            found = steady(chain)
            for start in range(len(chain)):
                worth = sum(Fraction(*found[state]) * Fraction(*expected_steps(chain, start, state))
                            for state in range(len(chain)) if state != start)
                self.check_ratio(mean_time(chain), worth)

    def test_chains(self):
        self.assertEqual([mean_time(ONE), mean_time(SWAP), mean_time(TURN), mean_time(((0, 1), (1, 1)))],
                         [(0, 1), (1, 2), (1, 1), (2, 3)])


if __name__ == "__main__":
    unittest.main()
