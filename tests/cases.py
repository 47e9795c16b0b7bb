"""What several test cases share."""

import unittest

from shiftcore.errors import TooMany


class WithLimits(unittest.TestCase):
    """A test case that looks at calls at which a bound is passed."""

    def check_too_many(self, most, function, *values):
        """Check that a call raises TooMany with its bound."""
        with self.assertRaises(TooMany) as caught:
            function(*values)
        self.assertEqual(caught.exception.most, most)
