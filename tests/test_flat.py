"""[15]: flat ways, their worths, and the first one with a told worth."""

import itertools
import unittest

from putsigns.errors import NoNumber, NoRow, NoSigns
from putsigns.flat import flat_way_to, flat_worths
from putsigns.ordered import number_of_way
from samples import NINE, NO_ROWS, NO_SIGNS, SHORT_ROWS, SIGNS_TO_PUT, TWELVE_FIGURES
from samples import anything, left_way, listed, refusal, small_rows, worth, written

NINES = (NINE, TWELVE_FIGURES, [0] * 9, [1, -2, 3, -4, 5, -6, 7, -8, 9], [0, 1, 0, -1, 2, 0, -2, 1, 0])


def flat_by_signs(row, between):
    """The flat way with these signs: products first, then from left to right."""
    products, joints = [row[0]], []
    for sign, number in zip(between, row[1:]):
        if sign == "*":
            products[-1] = ("*", products[-1], number)
        else:
            products.append(number)
            joints.append(sign)
    way = products[0]
    for sign, product in zip(joints, products[1:]):
        way = (sign, way, product)
    return way


def all_flat(row, signs):
    """One flat way for each row of signs."""
    return [flat_by_signs(row, between) for between in itertools.product(signs, repeat=len(row) - 1)]


class AgainstAllWays(unittest.TestCase):
    def check(self, row, signs):
        flat = [(way, number) for way, number in listed(row, signs) if "(" not in written(way)]
        self.assertEqual(len(flat), len(signs) ** (len(row) - 1))
        firsts = {}
        for way, number in flat:
            firsts.setdefault(number, way)
        self.assertEqual(flat_worths(row, signs), sorted(firsts), (row, signs))
        for number, way in firsts.items():
            self.assertEqual(flat_way_to(row, signs, number), way, (row, signs, number))
            for other in {number - 1, number + 1, -number} - set(firsts):
                self.assertIsNone(flat_way_to(row, signs, other), (row, signs, other))

    def test_short_rows(self):
        for row in SHORT_ROWS:
            for signs in SIGNS_TO_PUT:
                self.check(row, signs)

    def test_all_rows_of_few_small_numbers(self):
        for many, numbers in ((2, range(-2, 3)), (3, (-1, 0, 1, 2)), (4, (0, 1, 2))):
            for row in small_rows(numbers, many):
                for signs in SIGNS_TO_PUT:
                    self.check(row, signs)

    def test_six_numbers(self):
        for row in (NINE[:6], TWELVE_FIGURES[:6], [1] * 6, [2, 0, -1, 3, 0, 1]):
            for signs in SIGNS_TO_PUT:
                self.check(row, signs)


class NineNumbers(unittest.TestCase):
    def test_worths_of_all_rows_of_signs(self):
        for row in NINES:
            for signs in SIGNS_TO_PUT:
                ways = all_flat(row, signs)
                self.assertEqual(flat_worths(row, signs), sorted({worth(way) for way in ways}))

    def test_first_ways(self):
        for row in NINES:
            for signs in ("*", "+-", "-*", "+-*"):
                by_worth = {}
                for way in all_flat(row, signs):
                    by_worth.setdefault(worth(way), []).append(way)
                worths = sorted(by_worth)
                often = max(worths, key=lambda number: len(by_worth[number]))
                for number in worths[::len(worths) // 9 + 1] + [often]:
                    first = min(by_worth[number], key=lambda way: number_of_way(way, signs))
                    self.assertEqual(flat_way_to(row, signs, number), first)

    def test_none(self):
        for row in NINES:
            for signs in SIGNS_TO_PUT:
                worths = flat_worths(row, signs)
                for number in (worths[0] - 1, worths[-1] + 1, 10 ** 39, -10 ** 39):
                    due = next((way for way in all_flat(row, signs) if worth(way) == number), None)
                    self.assertEqual(flat_way_to(row, signs, number), due)


class WrittenOut(unittest.TestCase):
    def test_a_lone_number(self):
        for signs in SIGNS_TO_PUT:
            self.assertEqual(flat_worths([-6], signs), [-6])
            self.assertEqual(flat_way_to([-6], signs, -6), -6)
            self.assertIsNone(flat_way_to([-6], signs, 6))

    def test_three_numbers(self):
        # 1+2*3 1+2+3 1*2+3 1*2*3
        self.assertEqual(flat_worths([1, 2, 3], "+*"), [5, 6, 7])
        self.assertEqual(flat_way_to([1, 2, 3], "+*", 7), ("+", 1, ("*", 2, 3)))
        self.assertEqual(flat_way_to([1, 2, 3], "+*", 6), ("+", ("+", 1, 2), 3))
        self.assertEqual(flat_way_to([1, 2, 3], "*", 6), ("*", ("*", 1, 2), 3))
        self.assertIsNone(flat_way_to([1, 2, 3], "+*", 9))

    def test_nine_numbers(self):
        self.assertEqual(flat_worths(NINE, "+"), [45])
        self.assertEqual(flat_way_to(NINE, "-", 1 - 44), left_way(NINE, "-"))
        self.assertEqual(flat_way_to([0] * 9, "+-*", 0), ("+", 0, left_way([0] * 8, "*")))

    def test_kinds_of_values(self):
        self.assertIs(flat_worths([1, 2], "+").__class__, list)
        self.assertIs(flat_way_to([1, 2], "+", 3).__class__, tuple)


class Refused(unittest.TestCase):
    def test_no_row_then_no_signs_then_no_number(self):
        for thing in anything() + list(NO_ROWS):
            self.assertIs(refusal(flat_worths, thing, "+"), NoRow)
            self.assertIs(refusal(flat_worths, thing, thing), NoRow)
            self.assertIs(refusal(flat_way_to, thing, "+", 1), NoRow)
            self.assertIs(refusal(flat_way_to, thing, thing, thing), NoRow)
        for row in ([5], NINE):
            for thing in anything() + list(NO_SIGNS):
                self.assertIs(refusal(flat_worths, row, thing), NoSigns)
                self.assertIs(refusal(flat_way_to, row, thing, 1), NoSigns)
                self.assertIs(refusal(flat_way_to, row, thing, True), NoSigns)
            for thing in anything() + [True, False, [5], "5", ("+", 1, 2)]:
                self.assertIs(refusal(flat_way_to, row, "+-*", thing), NoNumber)

    def test_none_are_too_many(self):
        for many in range(1, 10):
            self.assertIsNone(refusal(flat_worths, NINE[:many], "+-*"))
            self.assertIsNone(refusal(flat_way_to, NINE[:many], "+-*", 1))


if __name__ == "__main__":
    unittest.main()
