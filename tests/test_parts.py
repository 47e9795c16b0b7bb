"""Point 4: parts, whole webs, periods and turns."""

import unittest
from math import gcd

from shiftcore.errors import NotWhole
from shiftcore.parts import is_whole, parts, period, turns
from shiftcore.webs import essential
from tests import plain


def led_to(web, state):
    """Return the states to which walks of at least one edge lead from a state."""
    found = {end for start, end, _ in web[1] if start == state}
    for _ in range(web[0]):
        found |= {end for start, end, _ in web[1] if start in found}
    return found


def plain_parts(web):
    """Return the parts by asking for each pair of states."""
    goals = [led_to(web, state) for state in range(web[0])]
    found = {tuple(k for k in range(web[0]) if k in goals[state] and state in goals[k]) for state in range(web[0])}
    return tuple(sorted(found - {()}))


def closed_lengths(web, most):
    """Return the lengths up to `most` of closed walks."""
    found = set()
    for state in range(web[0]):
        here = {state}
        for length in range(1, most + 1):
            here = {end for start, end, _ in web[1] if start in here}
            if state in here:
                found.add(length)
    return found


# Two closed walks of 6 and 10 edges through state 0.
TWO_RINGS = (15, tuple(sorted(
    [(k, k + 1, 0) for k in range(5)] + [(5, 0, 0), (0, 6, 0), (14, 0, 1)] + [(k, k + 1, 0) for k in range(6, 14)])))


class Parts(unittest.TestCase):
    def test_parts_by_reaching(self):
        for web in plain.SPECIAL + plain.random_webs(11, 300, 9, 2, 2):
            self.assertEqual(parts(web), plain_parts(web))

    def test_parts_are_of_the_web_itself(self):
        self.assertEqual(parts(plain.TAILS), ((1, 2),))
        self.assertEqual(parts((6, ((0, 1, 0), (1, 5, 0), (3, 3, 2), (3, 4, 0), (5, 1, 1)))), ((1, 5), (3,)))
        for web in [plain.EMPTY, (32, ()), plain.DEAD]:
            self.assertEqual(parts(web), ())
        self.assertEqual(parts(plain.ring(32)), (tuple(range(32)),))
        self.assertEqual(parts(plain.TWO_LOOPS), ((0,), (2,)))

    def test_is_whole(self):
        for web in plain.SPECIAL + plain.random_webs(12, 300, 6, 2, 2):
            core = essential(web)
            self.assertIs(is_whole(web), plain_parts(core) == (tuple(range(core[0])),) and core[0] > 0)

    def test_is_whole_at_edges(self):
        for web in [plain.EMPTY, (1, ()), plain.DEAD, plain.APART, plain.TWO_LOOPS]:
            self.assertIs(is_whole(web), False)
        for web in [plain.POINT, plain.TAILS, plain.ring(32), TWO_RINGS, (32, ((9, 9, 1),))]:
            self.assertIs(is_whole(web), True)

    def test_period_by_closed_walks(self):
        for web in plain.SPECIAL + plain.random_webs(13, 300, 7, 2, 2):
            if is_whole(web):
                core = essential(web)
                self.assertEqual(period(web), gcd(*closed_lengths(core, 3 * core[0])))

    def test_periods(self):
        self.assertEqual(period(TWO_RINGS), 2)
        for many in (1, 2, 7, 31, 32):
            self.assertEqual(period(plain.ring(many)), many)
        self.assertEqual(period(plain.GOLDEN), 1)
        self.assertEqual(period(plain.TAILS), 1)
        self.assertEqual(period(plain.SWAP), 2)

    def test_turns(self):
        for web in plain.SPECIAL + [TWO_RINGS, plain.ring(32)] + plain.random_webs(14, 300, 7, 2, 2):
            if not is_whole(web):
                continue
            core = essential(web)
            rows = turns(web)
            self.assertEqual(len(rows), period(web))
            self.assertEqual(sorted(state for row in rows for state in row), list(range(core[0])))
            self.assertIn(0, rows[0])
            for row in rows:
                self.assertEqual(row, tuple(sorted(row)))
            at = {state: number for number, row in enumerate(rows) for state in row}
            for start, end, _ in core[1]:
                self.assertEqual((at[start] + 1) % len(rows), at[end])

    def test_turns_by_value(self):
        self.assertEqual(turns(plain.GOLDEN), ((0, 1),))
        crossed = (4, ((0, 1, 0), (0, 3, 0), (1, 0, 0), (1, 2, 0), (2, 1, 0), (2, 3, 1), (3, 0, 0), (3, 2, 3)))
        self.assertEqual(turns(crossed), ((0, 2), (1, 3)))
        self.assertEqual(turns((5, ((1, 4, 0), (2, 1, 0), (4, 2, 0)))), ((0,), (2,), (1,)))

    def test_not_whole(self):
        for web in plain.SPECIAL + plain.random_webs(15, 100, 6, 2, 1):
            if not is_whole(web):
                for function in (period, turns):
                    with self.assertRaises(NotWhole):
                        function(web)


if __name__ == "__main__":
    unittest.main()
