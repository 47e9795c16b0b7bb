"""Points 24 and 25: turn maps, their rotations and their turning points."""

import unittest
from fractions import Fraction
from math import gcd

from shiftcore.circle import (after_turns, common_turn, has_turn, is_rising, lower, rotation, rotations, upper)
from shiftcore.errors import BadNumber, BadTurns, NotLinear, NotRising
from tests import circle_ways as ways
from tests.cases import WithLimits
from tests.circle_ways import MANY, NEAR, RISING, SMALL, SPECIAL, value

WRONG = [(), (0,) * 9, (41,), (-41,), (0, 41), (0, -41), (0, True), (False,), (0, None), ("0",), ((0,),), [0], [0, 1],
         "01", None, 0, True, {}, {0: 0}, (10 ** 30,), (0, [1]), (0, {})]


def places(turns, finer, low, high):
    """Return points of the line from low to high, some of them between the places of a map."""
    step = Fraction(1, len(turns) * finer)
    return [low + k * step for k in range(int((high - low) / step) + 1)]


def is_linear(one, other):
    """Return whether the two maps in a row are linear between places, by all points at which they may bend."""
    many = len(one)
    for k in range(many):
        low, high = Fraction(k, many), Fraction(k + 1, many)
        steps = max(1, abs(int((value(one, high) - value(one, low)) * many)))
        found = [value(other, value(one, low + (high - low) * Fraction(at, steps))) for at in range(steps + 1)]
        if any(found[at] * 2 != found[at - 1] + found[at + 1] for at in range(1, steps)):
            return False
    return True


def widest(turns):
    """Return over how many pieces a map takes a piece at most."""
    many = len(turns)
    return max(abs(int((value(turns, Fraction(k + 1, many)) - value(turns, Fraction(k, many))) * many))
               for k in range(many))


class Rising(unittest.TestCase):
    def test_by_places(self):
        found = set()
        for turns in MANY:
            self.assertIs(is_rising(turns), ways.is_rising(turns))
            found.add((len(turns), is_rising(turns)))
        self.assertLessEqual({(parts, is_so) for parts in range(2, 9) for is_so in (False, True)}, found)

    def test_maps(self):
        for turns in ((0,), (40,), (0, 0), (0, 2), (3, 5), (0, 0, 0, 4), (-40, -38), (0,) * 8, (0, 0, 0, 7, 7, 7, 7)):
            self.assertIs(is_rising(turns), True)
        for turns in ((0, 3), (1, 0), (0, -1), (0, 0, 4), (0, 1, 0, 1), (40, -40), (0,) * 7 + (9,)):
            self.assertIs(is_rising(turns), False)

    def test_bad_turns(self):
        for turns in WRONG:
            for function in (is_rising, upper, lower, rotation, rotations, common_turn):
                self.assertRaises(BadTurns, function, turns)
            self.assertRaises(BadTurns, after_turns, turns, (0,))
            self.assertRaises(BadTurns, after_turns, (0, 3), turns)
            self.assertRaises(BadTurns, after_turns, turns, None)
            self.assertRaises(BadTurns, has_turn, turns, 0, 1)
            self.assertRaises(BadTurns, has_turn, turns, 101, 13)


class Bounding(unittest.TestCase):
    def test_by_many_places(self):
        for turns in MANY[::2] + SPECIAL:
            many = len(turns)
            finer = 2
            values = {x: value(turns, x) for x in places(turns, finer, -1, 2)}
            for k in range(many):
                here = Fraction(k, many)
                self.assertEqual(Fraction(upper(turns)[k], many), max(y for x, y in values.items() if x <= here))
                self.assertEqual(Fraction(lower(turns)[k], many), min(y for x, y in values.items() if x >= here))

    def test_bounds_rise_and_keep_rising_maps(self):
        for turns in MANY:
            for found in (upper(turns), lower(turns)):
                self.assertIs(is_rising(found), True)
                self.assertEqual([upper(found), lower(found)], [found, found])
            self.assertTrue(all(low <= here <= high for low, here, high in zip(lower(turns), turns, upper(turns))))
            self.assertEqual(is_rising(turns), upper(turns) == turns == lower(turns))

    def test_maps(self):
        self.assertEqual([upper((0, 3)), lower((0, 3))], [(1, 3), (0, 2)])
        self.assertEqual([upper((-40, 40)), lower((-40, 40))], [(38, 40), (-40, -38)])
        self.assertEqual([upper((40, -40)), lower((40, -40))], [(40, 40), (-40, -40)])
        self.assertEqual([upper((7,)), lower((7,))], [(7,), (7,)])
        self.assertEqual(upper((0, 0, 0, 9, 0, 0, 0, 0)), (1, 1, 1, 9, 9, 9, 9, 9))
        self.assertEqual(lower((0, 0, 0, 9, 0, 0, 0, 0)), (0,) * 8)


class InARow(WithLimits):
    def test_at_many_places(self):
        found = set()
        for group in ([turns for turns in MANY if len(turns) == many][:27] for many in range(1, 9)):
            for one in group[::2] + group[-3:]:
                for other in group:
                    found.add(self.check_pair(one, other))
        self.assertEqual(found, {"linear", "not linear", "too many"})

    def check_pair(self, one, other):
        """Check two maps in a row, and return what came of them."""
        if not is_linear(one, other):
            self.assertRaises(NotLinear, after_turns, one, other)
            return "not linear"
        both = [value(other, Fraction(entry, len(one))) * len(one) for entry in one]
        if any(abs(entry) > 40 for entry in both):
            self.check_too_many(40, after_turns, one, other)
            return "too many"
        made = after_turns(one, other)
        self.assertEqual(made, tuple(both))
        for x in places(one, 3, -1, 1):
            self.assertEqual(value(made, x), value(other, value(one, x)))
        return "linear"

    def test_maps(self):
        self.assertEqual(after_turns((0, 3), (1, 2)), (1, 4))
        self.assertEqual(after_turns((1, 2), (0, 3)), (3, 2))
        self.assertEqual(after_turns((7,), (-9,)), (-2,))
        self.assertEqual(after_turns((0, 1, 2), (5, -6, 7)), (5, -6, 7))
        # What is flat goes to one place, so that it does not matter how the second map bends there.
        self.assertEqual(after_turns((0, 0, 1, 1), (0, -2, 0, 2)), (0, 0, -2, -2))
        self.assertEqual(after_turns((3, 3, 5, 6), (4, 7, 2, 5)), (5, 5, 11, 6))

    def test_not_linear(self):
        self.assertRaises(NotLinear, after_turns, (0, 3), (0, 3))
        self.assertRaises(NotLinear, after_turns, (0,), (0, 1))
        self.assertRaises(NotLinear, after_turns, (0, 1), (0,))
        self.assertRaises(NotLinear, after_turns, (0,) * 8, (0,) * 7)
        # Only the last piece, from place 5 to place 8, is taken over places where the second map bends.
        self.assertRaises(NotLinear, after_turns, (5, 5, 5), (0, 40, -40))
        # The numbers of parts and the line come before the range.
        self.assertRaises(NotLinear, after_turns, (40,), (40, 40))
        self.assertRaises(NotLinear, after_turns, (40, -40), (40, -40))

    def test_range(self):
        self.assertEqual([after_turns((20,), (20,)), after_turns((-20,), (-20,))], [(40,), (-40,)])
        self.check_too_many(40, after_turns, (20,), (21,))
        self.check_too_many(40, after_turns, (-20,), (-21,))
        self.check_too_many(40, after_turns, (40,), (40,))
        self.assertEqual([after_turns((40,), (0,)), after_turns((40,), (-40,))], [(40,), (0,)])
        self.assertEqual(after_turns((38, 39), (1, 2)), (39, 40))
        self.check_too_many(40, after_turns, (38, 39), (2, 3))


class Rotations(unittest.TestCase):
    def test_by_many_steps(self):
        found = set()
        for turns in RISING + [bound(turns) for turns in MANY[::3] for bound in (upper, lower)]:
            top, bottom = rotation(turns)
            self.assertEqual([gcd(top, bottom), 1 <= bottom <= len(turns)], [1, True])
            # The distance stays below 1; unlike ratios with such bottoms are 1 / 56 apart, which is more than 2 / 120.
            self.assertLess(abs(ways.followed(turns, Fraction(0), 120) - 120 * Fraction(top, bottom)), 1)
            self.assertLess(abs(ways.followed(turns, Fraction(5, 7), 20) - 20 * Fraction(top, bottom)), 1)
            found.add(bottom)
        self.assertLessEqual(set(range(1, 6)), found)

    def test_not_rising(self):
        for turns in MANY:
            if not is_rising(turns):
                self.assertRaises(NotRising, rotation, turns)
        self.assertRaises(NotRising, rotation, (0, 3))
        self.assertRaises(NotRising, rotation, (1, 0))

    def test_rotations(self):
        self.assertEqual([rotation((0,)), rotation((40,)), rotation((-40,)), rotation((0, 1))],
                         [(0, 1), (40, 1), (-40, 1), (0, 1)])
        self.assertEqual([rotation((1, 2)), rotation((-1, 0)), rotation((1, 2, 3)), rotation((-2, -1, 0))],
                         [(1, 2), (-1, 2), (1, 3), (-2, 3)])
        self.assertEqual(rotation((3, 4, 5, 6, 7, 8, 9, 10)), (3, 8))
        self.assertEqual(rotation((2, 3, 4, 5, 6, 7, 8, 9)), (1, 4))
        self.assertEqual(rotation((-40, -38)), (-20, 1))
        self.assertEqual(rotations((-40, 40)), ((-20, 1), (19, 1)))
        self.assertEqual(rotations((5, 6, 8, 8, 10, 11, 8, 13)), ((1, 2), (2, 3)))

    def test_least_and_greatest(self):
        for turns in MANY:
            least, greatest = rotations(turns)
            self.assertEqual([least, greatest], [rotation(lower(turns)), rotation(upper(turns))])
            self.assertLessEqual(Fraction(*least), Fraction(*greatest))
            if is_rising(turns):
                self.assertEqual(least, greatest)

    def test_all_points_go_on_between_them(self):
        for turns in SMALL[::4] + NEAR[::3]:
            least, greatest = [Fraction(*found) for found in rotations(turns)]
            for x in places(turns, 3, 0, 1):
                on = ways.followed(turns, x, 12)
                self.assertTrue(12 * least - 1 < on < 12 * greatest + 1)


class Turning(unittest.TestCase):
    def test_by_exact_points(self):
        found = set()
        few = [turns for turns in SPECIAL if len(turns) <= 5 and max(map(abs, turns)) < 10]
        for turns in SMALL[::3] + NEAR[::3] + few:
            least, greatest = [Fraction(*found) for found in rotations(turns)]
            for bottom in range(1, 6 if widest(turns) <= 2 else 5 if widest(turns) <= 3 else 4):
                for top in range(int(least * bottom) - 2, int(greatest * bottom) + 3):
                    is_so = ways.has_turn(turns, top, bottom)
                    self.assertIs(has_turn(turns, top, bottom), is_so, (turns, top, bottom))
                    found.add((gcd(top, bottom) == 1, is_so))
        self.assertEqual(len(found), 4)

    def test_bends_at_most_twice_as_far(self):
        # Long rows of pieces, in maps whose pieces are taken one to one or over two pieces.
        for turns in [(1, 2), (0, 1), (0, 0), (0, 2), (1, 3), (2, 3, 4, 3), (2, 1, 0, 2), (3, 2, 4, 5), (1, 1, 3, 3)]:
            if widest(turns) <= 2:
                for bottom in (6, 7, 8):
                    for top in range(-2, 6):
                        self.assertIs(has_turn(turns, top, bottom), ways.has_turn(turns, top, bottom))

    def test_lowest_terms_by_rotations(self):
        found = set()
        for turns in MANY:
            least, greatest = [Fraction(*found) for found in rotations(turns)]
            for bottom in (1, 2, 3, 5, 8, 11, 12):
                low, high = int(least * bottom), int(greatest * bottom)
                for top in {low - 1, low, high, high + 1}:
                    if gcd(top, bottom) == 1 and abs(top) <= 100:
                        is_so = least <= Fraction(top, bottom) <= greatest
                        self.assertIs(has_turn(turns, top, bottom), is_so, (turns, top, bottom))
                        found.add(is_so)
        self.assertEqual(found, {False, True})

    def test_pieces_that_come_back_one_to_one(self):
        # All points go on by half a turn, or stand still.
        self.assertEqual([has_turn((1, 2), *turn) for turn in ((1, 2), (2, 4), (3, 6), (6, 12), (0, 1), (1, 1))],
                         [True, False, False, False, False, False])
        self.assertEqual([has_turn((0,), *turn) for turn in ((0, 1), (0, 2), (0, 12), (1, 1))],
                         [True, False, False, False])
        # Piece 0 is turned around: its middle stands still, and its other points come back after two steps.
        self.assertEqual([has_turn((1, 0, 2), 0, bottom) for bottom in (1, 2)], [True, True])
        # Piece 0 goes to piece 2 and back, and is turned around by that.
        self.assertEqual([has_turn((2, 3, 1, 0), 0, bottom) for bottom in (2, 4)], [True, True])
        # Pieces 0 and 1 go to each other and are as they were after two steps; pieces 2 and 3 come to no piece again.
        self.assertEqual([has_turn((2, 1, 0, 0), 0, bottom) for bottom in (1, 2, 4)], [True, True, False])

    def test_ends_of_what_is_between(self):
        # A ratio that is not in lowest terms, at an end of the rotations.
        self.assertEqual([has_turn((0, 3), *turn) for turn in ((0, 1), (0, 2), (0, 3), (1, 1), (2, 2), (3, 3))],
                         [True, False, False, True, False, False])
        self.assertEqual([has_turn((0, 3), *turn) for turn in ((1, 2), (2, 4), (3, 6), (4, 8), (6, 12))], [True] * 5)

    def test_rising_maps_turn_in_lowest_terms_alone(self):
        for turns in RISING:
            top, bottom = rotation(turns)
            self.assertIs(has_turn(turns, top, bottom), True)
            for times in range(2, 12 // bottom + 1):
                if abs(times * top) <= 100:
                    self.assertIs(has_turn(turns, times * top, times * bottom), False)
            for other in (top - 1, top + 1):
                if abs(other) <= 100:
                    self.assertIs(has_turn(turns, other, bottom), False)

    def test_bounds(self):
        self.assertIs(has_turn((40,), 40, 1), True)
        self.assertIs(has_turn((-40, 40), 100, 12), True)
        self.assertIs(has_turn((-40, 40), -100, 12), True)
        self.assertIs(has_turn((-40, 40) * 4, 99, 12), False)
        self.assertIs(has_turn((-40, 40) * 4, 48, 12), True)
        self.assertIs(has_turn((-40,), -80, 2), False)
        for top in (101, -101, True, None, "1", (1,), 10 ** 30, [], {}):
            self.assertRaises(BadNumber, has_turn, (0,), top, 1)
            self.assertRaises(BadNumber, has_turn, (0,), top, 13)
        for bottom in (0, 13, -1, True, None, "1", (1,), 10 ** 30, [], {}):
            self.assertRaises(BadNumber, has_turn, (0,), 1, bottom)


class CommonTurns(unittest.TestCase):
    def test_by_all_bottoms(self):
        found = set()
        for turns in MANY:
            least, greatest = [Fraction(*found) for found in rotations(turns)]
            between = [(bottom, top) for bottom in range(1, 9)
                       for top in range(int(least * bottom) - 1, int(greatest * bottom) + 2)
                       if least * bottom <= top <= greatest * bottom]
            bottom, top = min(between)
            self.assertEqual(common_turn(turns), (top, bottom))
            self.assertEqual(gcd(top, bottom), 1)
            if abs(top) <= 100:
                self.assertIs(has_turn(turns, top, bottom), True)
            found.add((bottom, least == greatest))
        self.assertLessEqual({(bottom, is_one) for bottom in range(1, 6) for is_one in (False, True)}, found)

    def test_maps(self):
        self.assertEqual([common_turn((0,)), common_turn((40,)), common_turn((-40, 40)), common_turn((1, 2))],
                         [(0, 1), (40, 1), (-20, 1), (1, 2)])
        self.assertEqual([common_turn((-2, -1, 0)), common_turn((3, 4, 5, 6, 7, 8, 9, 10))], [(-2, 3), (3, 8)])


if __name__ == "__main__":
    unittest.main()
