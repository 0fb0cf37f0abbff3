"""[10], [11]: the greatest and the least worths, the first ways that have them, and the bounds of stretches."""

import time
import unittest

from putsigns.bounds import bounds_of, first_greatest, first_least, greatest_of, least_of
from putsigns.errors import NoRow, NoSigns
from putsigns.ways import numbers_of, signs_of
from samples import NINE, NO_ROWS, NO_SIGNS, SHORT_ROWS, SIGNS_TO_PUT, TWELVE_FIGURES
from samples import anything, left_way, listed, refusal, right_way, small_rows, worth

CALLS = (greatest_of, least_of, first_greatest, first_least, bounds_of)
NINES = (
    NINE, TWELVE_FIGURES, [0] * 9, [1] * 9, [-1] * 9, [2] * 9, [-2] * 9, [1, -2, 3, -4, 5, -6, 7, -8, 9],
    [0, 1, 0, -1, 0, 2, 0, -2, 0], [3, 3, 3, 0, 0, 0, -3, -3, -3], [10 ** 12 - 1] * 9, [1 - 10 ** 12] * 9,
    [1, 1, 2, 1, 1, 2, 1, 1, 2], [-5, 1, 1, 0, 7, 1, -1, 2, 1],
)


class AgainstAllWays(unittest.TestCase):
    def check(self, row, signs):
        ways = listed(row, signs)
        greatest = max(number for way, number in ways)
        least = min(number for way, number in ways)
        said = (row, signs)
        self.assertEqual(greatest_of(row, signs), greatest, said)
        self.assertEqual(least_of(row, signs), least, said)
        self.assertEqual(first_greatest(row, signs), next(way for way, number in ways if number == greatest), said)
        self.assertEqual(first_least(row, signs), next(way for way, number in ways if number == least), said)

    def test_short_rows(self):
        for row in SHORT_ROWS:
            for signs in SIGNS_TO_PUT:
                self.check(row, signs)

    def test_all_rows_of_few_small_numbers(self):
        # Zeros, ones and equal numbers: here several ways have the greatest and the least worth.
        for many, numbers in ((2, range(-3, 4)), (3, range(-2, 4)), (4, (-1, 0, 1, 2)), (5, (-1, 0))):
            for row in small_rows(numbers, many):
                for signs in SIGNS_TO_PUT:
                    self.check(row, signs)

    def test_five_numbers_with_zeros(self):
        for row in small_rows((0, 1, -2), 5)[::7]:
            for signs in ("*", "-*", "+-*"):
                self.check(row, signs)

    def test_longer_rows(self):
        for row in ([2, 0, -1, 3, 0, 1], [1, -1, 2, -2, 1, 0], TWELVE_FIGURES[:6]):
            self.check(row, "+-*")
        for row in NINES:
            for sign in "+-*":
                self.check(row, sign)


class WrittenOut(unittest.TestCase):
    def test_a_lone_number(self):
        for signs in SIGNS_TO_PUT:
            for call in CALLS[:4]:
                self.assertEqual(call([-6], signs), -6)
            self.assertEqual(bounds_of([-6], signs), {(0, 0): (-6, -6)})

    def test_three_numbers(self):
        self.assertEqual((least_of([1, 2, 3], "+*"), greatest_of([1, 2, 3], "+*")), (5, 9))
        self.assertEqual(first_greatest([1, 2, 3], "+*"), ("*", ("+", 1, 2), 3))
        self.assertEqual(first_least([1, 2, 3], "+*"), ("*", 1, ("+", 2, 3)))
        self.assertEqual((least_of([1, 2, 3], "-"), greatest_of([1, 2, 3], "-")), (-4, 2))
        self.assertEqual(first_greatest([1, 2, 3], "-"), ("-", 1, ("-", 2, 3)))
        self.assertEqual(first_least([1, 2, 3], "-"), ("-", ("-", 1, 2), 3))

    def test_the_other_side_of_a_zero_is_the_first_of_all(self):
        # Whatever 4, 1, 3 make, from 7 to 16, 0 times it is 0: neither the 7 nor the 16 is due, but the first, an 8.
        self.assertEqual(first_least([0, 4, 1, 3], "+*"), ("*", 0, ("+", 4, ("+", 1, 3))))
        self.assertEqual(first_greatest([0, 1, 2, 3], "*"), right_way([0, 1, 2, 3], "*"))

    def test_bounds(self):
        self.assertEqual(bounds_of([1, -2, 3], "+*"), {
            (0, 0): (1, 1), (1, 1): (-2, -2), (2, 2): (3, 3), (0, 1): (-2, -1), (1, 2): (-6, 1), (0, 2): (-6, 2),
        })


class NineNumbers(unittest.TestCase):
    def test_told_ways_have_the_told_worths(self):
        for row in NINES:
            for signs in SIGNS_TO_PUT:
                for told, way in ((greatest_of(row, signs), first_greatest(row, signs)),
                                  (least_of(row, signs), first_least(row, signs))):
                    self.assertEqual(worth(way), told)
                    self.assertEqual(numbers_of(way), row)
                    self.assertLessEqual(set(signs_of(way)), set(signs))
                self.assertLessEqual(least_of(row, signs), greatest_of(row, signs))

    def test_told_soon(self):
        # All 9382230 ways can not be gone through in this time; of the stretches it takes some thousandths of it.
        for call in CALLS:
            start = time.perf_counter()
            call(TWELVE_FIGURES, "+-*")
            self.assertLess(time.perf_counter() - start, 2, call)

    def test_known_ones(self):
        self.assertEqual(greatest_of(NINE, "+"), 45)
        self.assertEqual(first_greatest(NINE, "+"), right_way(NINE))
        self.assertEqual(greatest_of([2] * 9, "*"), 512)
        self.assertEqual(least_of(NINE, "-"), 1 - 44)
        self.assertEqual(first_least(NINE, "-"), left_way(NINE, "-"))
        self.assertEqual(greatest_of(NINE, "-"), 1 - 2 + 3 + 4 + 5 + 6 + 7 + 8 + 9)
        self.assertEqual(greatest_of(NINE, "+-*"), 3 * 3 * 4 * 5 * 6 * 7 * 8 * 9)
        self.assertEqual(first_greatest(NINE, "+-*"), ("*", ("+", 1, 2), right_way(NINE[2:], "*")))
        self.assertEqual(least_of([10 ** 12 - 1] * 9, "*"), (10 ** 12 - 1) ** 9)


class Stretches(unittest.TestCase):
    def test_all_and_no_other_each_as_of_the_row_cut_out(self):
        for row in SHORT_ROWS + NINES[:9]:
            for signs in SIGNS_TO_PUT:
                told = bounds_of(row, signs)
                self.assertEqual(sorted(told), [(i, j) for i in range(len(row)) for j in range(i, len(row))])
                for (i, j), pair in told.items():
                    part = row[i:j + 1]
                    self.assertEqual(pair, (least_of(part, signs), greatest_of(part, signs)))

    def test_against_all_ways(self):
        for row in SHORT_ROWS[::3]:
            for signs in SIGNS_TO_PUT:
                for (i, j), pair in bounds_of(row, signs).items():
                    worths = [number for way, number in listed(row[i:j + 1], signs)]
                    self.assertEqual(pair, (min(worths), max(worths)))

    def test_kinds_of_values(self):
        told = bounds_of(NINE, "+-*")
        self.assertIs(told.__class__, dict)
        for stretch, pair in told.items():
            self.assertEqual((stretch.__class__, pair.__class__), (tuple, tuple))


class Refused(unittest.TestCase):
    def test_no_row_then_no_signs(self):
        for call in CALLS:
            for thing in anything() + list(NO_ROWS):
                self.assertIs(refusal(call, thing, "+"), NoRow)
                self.assertIs(refusal(call, thing, None), NoRow)
                self.assertIs(refusal(call, thing, thing), NoRow)
            for thing in anything() + list(NO_SIGNS):
                self.assertIs(refusal(call, [5], thing), NoSigns)
                self.assertIs(refusal(call, NINE, thing), NoSigns)


if __name__ == "__main__":
    unittest.main()
