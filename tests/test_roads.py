"""Point 18: roads, their colorings, and the weights of their states."""

import unittest
from itertools import combinations_with_replacement, permutations, product
from math import gcd
from random import Random

from shiftcore.errors import BadRoads, NotWhole
from shiftcore.machines import rank, rank_word, reset_word
from shiftcore.roads import coloring, shows_coloring, weights


def all_roads(states, many):
    """Return all tuples of so many rows of so many states in ascending order."""
    return list(product(combinations_with_replacement(range(states), many), repeat=states))


def random_roads(seed, count, states, many):
    """Return so many tuples of rows, some of them with turns of their states."""
    rng = Random(seed)
    found = []
    for _ in range(count):
        turn = rng.choice([0, 0, 2, 3, 4])
        rows = []
        for state in range(states):
            ends = [end for end in range(states) if turn == 0 or end % turn == (state + 1) % turn] or [0]
            rows.append(tuple(sorted(rng.choice(ends) for _ in range(many))))
        found.append(tuple(rows))
    return found


def is_whole(roads):
    """Return whether each state reaches each state."""
    for start in range(len(roads)):
        met = list(dict.fromkeys(roads[start]))
        for here in met:
            met.extend(end for end in dict.fromkeys(roads[here]) if end not in met)
        if len(met) < len(roads):
            return False
    return True


def common_divisor(roads):
    """Return the greatest common divisor of the lengths of all closed walks of up to 12 roads."""
    divisor = 0
    for start in range(len(roads)):
        here = {start}
        for length in range(1, 13):
            here = {end for state in here for end in roads[state]}
            if start in here:
                divisor = gcd(divisor, length)
    return divisor


ANY = all_roads(1, 2) + all_roads(1, 3) + all_roads(2, 2) + all_roads(2, 3) + all_roads(3, 2) + all_roads(3, 3)[::7]
ANY += random_roads(1, 60, 4, 2) + random_roads(2, 60, 5, 2) + random_roads(3, 40, 4, 3) + random_roads(4, 40, 5, 3)
WHOLE = [roads for roads in ANY if is_whole(roads)]
TURNING = ((1, 1, 1), (2, 2, 2), (3, 3, 3), (4, 4, 4), (0, 0, 0))
CERNY = ((0, 1), (1, 2), (2, 3), (0, 0))


def all_orders(roads):
    """Return all machines whose rows are those of roads, each in some order."""
    return list(product(*[sorted(set(permutations(row))) for row in roads]))


def moved(machine, states, word):
    """Return the set of the states that follow on some states when a word comes."""
    for letter in word:
        states = {machine[state][letter] for state in states}
    return states


class Colorings(unittest.TestCase):
    def test_a_coloring_exactly_without_a_common_divisor(self):
        found = set()
        for roads in WHOLE:
            machine = coloring(roads)
            divisor = common_divisor(roads)
            found.add(divisor)
            self.assertEqual(machine is not None, divisor == 1)
            if machine is not None:
                self.assertEqual([sorted(row) for row in machine], [list(row) for row in roads])
                self.assertEqual(len(moved(machine, range(len(roads)), reset_word(machine))), 1)
                self.assertIs(shows_coloring(roads, machine), True)
        self.assertLessEqual({1, 2, 3}, found)

    def test_all_orders_are_shown_exactly_with_a_reset_word(self):
        for roads in WHOLE[::6]:
            found = set()
            for machine in all_orders(roads)[::3]:
                has_one = any(len(moved(machine, range(len(roads)), word)) == 1
                              for length in range(7) for word in product(range(len(roads[0])), repeat=length)) \
                    if len(roads) <= 3 else rank(machine) == 1
                self.assertIs(shows_coloring(roads, machine), has_one)
                found.add(has_one)
            if coloring(roads) is None:
                self.assertEqual(found, {False})

    def test_colorings(self):
        self.assertEqual(coloring(((0, 0),)), ((0, 0),))
        self.assertEqual(coloring(((0, 0, 0),)), ((0, 0, 0),))
        self.assertIsNone(coloring(((1, 1), (0, 0))))
        self.assertIsNone(coloring(TURNING))
        self.assertIsNone(coloring(((1, 2), (0, 3), (0, 3), (1, 2))))
        for roads in (CERNY, ((0, 1), (0, 0)), ((0, 1), (0, 1)), ((0, 1, 1), (0, 0, 1)), ((0, 1, 2),) * 3):
            self.assertIs(shows_coloring(roads, coloring(roads)), True)

    def test_values_that_are_no_colorings(self):
        roads = ((0, 1), (0, 1))
        self.assertIs(shows_coloring(roads, ((0, 1), (0, 1))), True)
        self.assertIs(shows_coloring(roads, ((1, 0), (1, 0))), True)
        self.assertIs(shows_coloring(roads, ((0, 1), (1, 0))), False)
        self.assertIs(shows_coloring(roads, ((1, 0), (0, 1))), False)
        for value in [None, 0, "", "01", (), ((0, 1),), ((0, 1), (0, 1), (0, 1)), [(0, 1), (0, 1)], ((0, 1), [0, 1]),
                      ((0, 1), (0, True)), ((0, 1), (False, 1)), ((0, 1), (0, 0)), ((0, 1), (1, 1)), ((0, 1), (0,)),
                      ((0, 1), (0, 1, 1)), ((0, 1, 1), (0, 1, 1)), ((0, 1), (0, 2)), ((0, 1), (0, -1)), ((0, 1), None),
                      {0: (0, 1), 1: (0, 1)}, (0, 1), ((0,), (0,)), ((0, 1), "01"), True, ((), ()), ((0, 1), (0, "1"))]:
            self.assertIs(shows_coloring(roads, value), False)
        # A coloring of other roads, and a machine that resets, but changes the number of roads to a state.
        self.assertIs(shows_coloring(roads, coloring(((0, 1), (0, 0)))), False)
        self.assertIs(shows_coloring(((0, 0, 1), (0, 1, 1)), ((0, 1, 1), (0, 1, 1))), False)
        self.assertIs(shows_coloring(((0, 0, 1), (0, 1, 1)), ((1, 0, 0), (1, 1, 0))), True)
        self.assertIs(shows_coloring(((1, 1), (0, 0)), ((1, 1), (0, 0))), False)

    def test_the_longest_way_to_a_reset(self):
        self.assertIs(shows_coloring(CERNY, ((0, 1), (1, 2), (2, 3), (0, 0))), True)
        self.assertEqual(len(reset_word(((0, 1), (1, 2), (2, 3), (0, 0)))), 9)


class Weights(unittest.TestCase):
    def test_flow(self):
        for roads in WHOLE:
            found = weights(roads)
            self.assertEqual(len(found), len(roads))
            self.assertTrue(all(weight > 0 for weight in found))
            self.assertEqual(gcd(*found), 1)
            for state, weight in enumerate(found):
                arriving = sum(found[start] for start, row in enumerate(roads) for end in row if end == state)
                self.assertEqual(arriving, weight * len(roads[0]))

    def test_weights(self):
        self.assertEqual([weights(((0, 0),)), weights(((0, 0, 0),)), weights(TURNING)], [(1,), (1,), (1,) * 5])
        self.assertEqual(weights(((0, 1), (0, 0))), (2, 1))
        self.assertEqual(weights(((0, 1), (0, 1))), (1, 1))
        self.assertEqual(weights(((0, 1, 1), (0, 0, 0))), (3, 2))
        self.assertEqual(weights(((1, 1), (2, 2), (0, 1))), (1, 2, 2))
        self.assertEqual(weights(((0, 1), (0, 2), (0, 3), (0, 4), (0, 0))), (16, 8, 4, 2, 1))
        self.assertEqual(weights(((0, 0, 1), (0, 0, 2), (0, 0, 3), (0, 0, 4), (0, 0, 0))), (81, 27, 9, 3, 1))
        self.assertEqual(weights(CERNY), (2, 2, 2, 1))

    def test_sets_led_to_one_state_have_equal_weights(self):
        for roads in WHOLE[::4]:
            found = weights(roads)
            for machine in all_orders(roads)[:3]:
                word = rank_word(machine)
                sums = {}
                for state in range(len(roads)):
                    (end,) = moved(machine, {state}, word)
                    sums[end] = sums.get(end, 0) + found[state]
                self.assertEqual(set(sums.values()), {sum(found) // rank(machine)})


class Errors(unittest.TestCase):
    def test_not_whole(self):
        for roads in ANY:
            if not is_whole(roads):
                self.assertRaises(NotWhole, coloring, roads)
                self.assertRaises(NotWhole, weights, roads)
                self.assertRaises(NotWhole, shows_coloring, roads, roads)
                self.assertRaises(NotWhole, shows_coloring, roads, None)
        for roads in [((0, 0), (0, 1)), ((0, 1), (1, 1)), ((0, 0), (1, 1)), ((1, 1), (0, 0), (0, 1))]:
            self.assertRaises(NotWhole, weights, roads)

    def test_index_of_bad_roads(self):
        cases = [((), None), (((0, 0),) * 6, None), (((0,),), 0), (((0, 0, 0, 0),), 0), (((0, 0), (0, 0, 0)), 1),
                 (((0, 0, 0), (0, 0)), 1), (((0, 1), (1, 0)), 1), (((1, 0), (0, 1)), 0), (((0, 2), (0, 0)), 0),
                 (((0, 1), (0, 1), (0, 3)), 2), (((0, 1), None, None), 1), (((0, 1), (0, True), (9, 9)), 1),
                 (((0, 1), (1, 1), (0, 2), (0, 0, 0, 0), ()), 3), (((0, 0), ()), 1), (((), (0, 0)), 0),
                 (((0, 0), (2, 1), (0, 0)), 1), (((0, 0, 0), (0, 2, 1), (0, 0)), 1), (None, None), ([(0, 0)], None)]
        for value, index in cases:
            for function, rest in [(coloring, ()), (weights, ()), (shows_coloring, (None,))]:
                with self.assertRaises(BadRoads) as caught:
                    function(value, *rest)
                self.assertEqual(caught.exception.index, index)
                self.assertNotIsInstance(caught.exception.index, bool)

    def test_bounds(self):
        for many in (2, 3):
            self.assertEqual(weights((tuple(range(many)),) * many), (1,) * many)
            self.assertEqual(weights(((0,) * many,)), (1,))
            self.assertEqual(len(weights(tuple((state + 1,) * many for state in range(4)) + ((0,) * many,))), 5)
        self.assertEqual(weights(((0, 1), (2, 2), (3, 3), (4, 4), (0, 0))), (2, 1, 1, 1, 1))


if __name__ == "__main__":
    unittest.main()
