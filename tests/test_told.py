"""[14]: a told worth, had with the fewest brackets."""

import unittest

from putsigns.errors import NoNumber, NoRow, NoSigns, TooMany
from putsigns.told import fewest_brackets, way_to
from samples import NINE, NO_ROWS, NO_SIGNS, SHORT_ROWS, SIGNS_TO_PUT, TWELVE_FIGURES
from samples import anything, listed, refusal, small_rows, written

CALLS = (way_to, fewest_brackets)


def best_by_worth(row, signs):
    """Of all ways, for each worth the fewest brackets and the first way that has them."""
    best = {}
    for way, number in listed(row, signs):
        brackets = written(way).count("(")
        if number not in best or brackets < best[number][0]:
            best[number] = (brackets, way)
    return best


class AgainstAllWays(unittest.TestCase):
    def check(self, row, signs, step=1):
        best = best_by_worth(row, signs)
        for number in sorted(best)[::step]:
            brackets, way = best[number]
            self.assertEqual(way_to(row, signs, number), way, (row, signs, number))
            self.assertEqual(fewest_brackets(row, signs, number), brackets, (row, signs, number))
            for other in {number - 1, number + 1, -number} - set(best):
                self.assertIsNone(way_to(row, signs, other), (row, signs, other))
                self.assertIsNone(fewest_brackets(row, signs, other), (row, signs, other))

    def test_short_rows(self):
        for row in SHORT_ROWS:
            for signs in SIGNS_TO_PUT:
                self.check(row, signs, 1 if len(row) < 5 else 7)

    def test_all_rows_of_few_small_numbers(self):
        for many, numbers in ((2, range(-2, 3)), (3, (-1, 0, 1, 2)), (4, (0, 1, 2))):
            for row in small_rows(numbers, many):
                for signs in SIGNS_TO_PUT:
                    self.check(row, signs)

    def test_all_worths_of_five_numbers(self):
        for row in ([1, 2, 3, 4, 5], [2, -1, 0, 1, 3]):
            self.check(row, "+-*")

    def test_six_numbers(self):
        for row in (NINE[:6], TWELVE_FIGURES[:6], [1] * 6, [2, 0, -1, 3, 0, 1]):
            self.check(row, "+-*", 50)
            self.check(row, "-*", 20)


class WrittenOut(unittest.TestCase):
    def test_a_lone_number(self):
        for signs in SIGNS_TO_PUT:
            self.assertEqual(way_to([-6], signs, -6), -6)
            self.assertEqual(fewest_brackets([-6], signs, -6), 0)
            for number in (6, -5, -7, 0):
                self.assertIsNone(way_to([-6], signs, number))
                self.assertIsNone(fewest_brackets([-6], signs, number))

    def test_three_numbers(self):
        # The first ways with 6 are 1+(2+3) and 1*(2*3), with brackets; the first without is 1+2+3.
        self.assertEqual(way_to([1, 2, 3], "+*", 6), ("+", ("+", 1, 2), 3))
        self.assertEqual(fewest_brackets([1, 2, 3], "+*", 6), 0)
        self.assertEqual(way_to([1, 2, 3], "+*", 5), ("+", ("*", 1, 2), 3))
        self.assertEqual(way_to([1, 2, 3], "+*", 9), ("*", ("+", 1, 2), 3))
        self.assertEqual(fewest_brackets([1, 2, 3], "+*", 9), 1)
        self.assertIsNone(way_to([1, 2, 3], "+*", 8))
        self.assertIsNone(fewest_brackets([1, 2, 3], "+*", 8))

    def test_the_first_of_several_with_as_few_brackets(self):
        self.assertEqual(way_to([0, 0, 0], "+-*", 0), ("+", 0, ("*", 0, 0)))
        self.assertEqual(way_to([2, 2], "+*", 4), ("+", 2, 2))

    def test_kinds_of_values(self):
        self.assertIs(way_to([1, 2], "+", 3).__class__, tuple)
        self.assertIs(fewest_brackets([1, 2], "+", 3).__class__, int)


class Refused(unittest.TestCase):
    def test_no_row_then_no_signs_then_no_number(self):
        for call in CALLS:
            for thing in anything() + list(NO_ROWS):
                self.assertIs(refusal(call, thing, "+", 1), NoRow)
                self.assertIs(refusal(call, thing, thing, thing), NoRow)
            for row in ([5], NINE[:7], NINE):
                for thing in anything() + list(NO_SIGNS):
                    self.assertIs(refusal(call, row, thing, 1), NoSigns)
                    self.assertIs(refusal(call, row, thing, True), NoSigns)
                for thing in anything() + [True, False, [5], "5", ("+", 1, 2)]:
                    self.assertIs(refusal(call, row, "+-*", thing), NoNumber)

    def test_too_many(self):
        for call in CALLS:
            for signs in SIGNS_TO_PUT:
                for many in range(1, 10):
                    for number in (1, sum(NINE[:many]), -10 ** 39):
                        due = TooMany if many > 6 else None
                        self.assertIs(refusal(call, NINE[:many], signs, number), due)


if __name__ == "__main__":
    unittest.main()
