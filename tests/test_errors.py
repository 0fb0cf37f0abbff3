"""The classes of refusals, as the interface lists them."""

import unittest

from putsigns import errors
from samples import REFUSALS

NAMES = "NoRow NoSigns NoWay NoNumber NoPlace NoFit NoForm NoHolds TooMany NoText NoAsk".split()


class Refusals(unittest.TestCase):
    def test_any_refusal_is_a_value_error(self):
        self.assertEqual(errors.PutError.__bases__, (ValueError,))

    def test_each_stands_straight_under_put_error(self):
        for name in NAMES:
            self.assertEqual(getattr(errors, name).__bases__, (errors.PutError,), name)
            self.assertEqual(getattr(errors, name).__name__, name)

    def test_none_stands_under_another(self):
        self.assertEqual(sorted(one.__name__ for one in REFUSALS), sorted(NAMES))
        for one in REFUSALS:
            for other in REFUSALS:
                self.assertEqual(issubclass(one, other), one is other)


if __name__ == "__main__":
    unittest.main()
