"""[12], [13]: all worths of the ways of a row, the nearest to a number, and how many ways have a worth."""

import collections
import unittest

from putsigns.errors import NoNumber, NoRow, NoSigns, TooMany
from putsigns.every import can_be, how_many_with, how_many_worths, most_often, nearest_to, worths_of
from putsigns.ordered import how_many_ways
from samples import NINE, NO_ROWS, NO_SIGNS, SHORT_ROWS, SIGNS_TO_PUT, TWELVE_FIGURES
from samples import anything, listed, refusal, small_rows

OF_A_ROW = (worths_of, how_many_worths, most_often)
OF_A_NUMBER = (can_be, nearest_to, how_many_with)
FAR = 10 ** 40 - 1


def counted(row, signs):
    """How many ways have each worth, of all ways."""
    return collections.Counter(number for way, number in listed(row, signs))


def all_worths(row):
    """The worth of each way of a row with all signs, as often as ways have it."""
    if len(row) == 1:
        return row
    return [
        number
        for cut in range(1, len(row))
        for left in all_worths(row[:cut])
        for right in all_worths(row[cut:])
        for number in (left + right, left - right, left * right)
    ]


def nearest(worths, number):
    """The worths nearest to a number, rising."""
    rising = sorted(worths, key=lambda worth: (abs(worth - number), worth))
    return [worth for worth in rising if abs(worth - number) == abs(rising[0] - number)]


def asked_about(worths):
    """Numbers about the worths: these, their neighbours, those halfway to the next ones, and far ones."""
    numbers = {0, FAR, -FAR}
    for worth in worths:
        numbers |= {worth - 1, worth, worth + 1, -worth}
    for lower, upper in zip(worths, worths[1:]):
        numbers |= {(lower + upper) // 2, (lower + upper + 1) // 2}
    return sorted(numbers)


class AgainstAllWays(unittest.TestCase):
    def check(self, row, signs):
        many = counted(row, signs)
        worths = sorted(many)
        said = (row, signs)
        self.assertEqual(worths_of(row, signs), worths, said)
        self.assertEqual(how_many_worths(row, signs), len(worths), said)
        most = max(many.values())
        self.assertEqual(most_often(row, signs), (min(worth for worth in many if many[worth] == most), most), said)

    def check_numbers(self, row, signs, numbers):
        many = counted(row, signs)
        for number in numbers:
            said = (row, signs, number)
            self.assertIs(can_be(row, signs, number), number in many, said)
            self.assertEqual(nearest_to(row, signs, number), nearest(many, number), said)
            self.assertEqual(how_many_with(row, signs, number), many[number], said)

    def test_short_rows(self):
        for row in SHORT_ROWS:
            for signs in SIGNS_TO_PUT:
                self.check(row, signs)
                numbers = asked_about(sorted(counted(row, signs)))
                self.check_numbers(row, signs, numbers[::len(numbers) // 40 + 1])

    def test_all_rows_of_three_small_numbers(self):
        for row in small_rows((-2, 0, 1, 2, 3), 3):
            for signs in SIGNS_TO_PUT:
                self.check(row, signs)
                self.check_numbers(row, signs, asked_about(sorted(counted(row, signs))))

    def test_six_numbers(self):
        for row in (NINE[:6], TWELVE_FIGURES[:6], [2, 0, -1, 3, 0, 1]):
            self.check(row, "+-*")
            for signs in SIGNS_TO_PUT[:-1]:
                self.check(row, signs)
            numbers = asked_about(sorted(counted(row, "+-*")))
            self.check_numbers(row, "+-*", numbers[::len(numbers) // 20 + 1])

    def test_seven_numbers(self):
        for row in (NINE[:7], TWELVE_FIGURES[:7], [0, 1, -1, 2, -2, 3, 0]):
            for signs in ("+", "-", "*", "+-", "-*"):
                many = counted(row, signs)
                self.assertEqual(how_many_worths(row, signs), len(many))
                self.assertEqual(most_often(row, signs), min(many.items(), key=lambda pair: (-pair[1], pair[0])))
                self.check_numbers(row, signs, asked_about(sorted(many)[:3]))


class WrittenOut(unittest.TestCase):
    def test_a_lone_number(self):
        for signs in SIGNS_TO_PUT:
            self.assertEqual(worths_of([-6], signs), [-6])
            self.assertEqual(how_many_worths([-6], signs), 1)
            self.assertEqual(nearest_to([-6], signs, 6), [-6])
            self.assertEqual(most_often([-6], signs), (-6, 1))

    def test_three_numbers(self):
        # 1+(2+3) 1+2*3 1*(2+3) 1*(2*3) 1+2+3 1*2+3 (1+2)*3 1*2*3
        self.assertEqual(worths_of([1, 2, 3], "+*"), [5, 6, 7, 9])
        self.assertEqual(how_many_worths([1, 2, 3], "+*"), 4)
        self.assertEqual([how_many_with([1, 2, 3], "+*", number) for number in range(4, 11)], [0, 2, 4, 1, 0, 1, 0])
        self.assertEqual(most_often([1, 2, 3], "+*"), (6, 4))

    def test_the_least_of_several_that_most_ways_have(self):
        self.assertEqual(most_often([5, 3], "+-*"), (2, 1))
        self.assertEqual(most_often([5, -3], "+-*"), (-15, 1))
        self.assertEqual(most_often([1, 2, 3], "-"), (-4, 1))

    def test_nearest(self):
        row, signs = [1, 2, 3], "+*"
        self.assertEqual(nearest_to(row, signs, 6), [6])
        self.assertEqual(nearest_to(row, signs, 8), [7, 9])
        self.assertEqual(nearest_to(row, signs, 4), [5])
        self.assertEqual(nearest_to(row, signs, -FAR), [5])
        self.assertEqual(nearest_to(row, signs, 10), [9])
        self.assertEqual(nearest_to(row, signs, FAR), [9])
        self.assertEqual(nearest_to([5, -5], "+*", -12), [0])
        self.assertEqual(nearest_to([5, -5], "+*", -13), [-25])
        self.assertEqual(nearest_to([4, -4], "+*", -8), [-16, 0])

    def test_kinds_of_values(self):
        self.assertIs(worths_of([1, 2], "+").__class__, list)
        self.assertIs(nearest_to([1, 2], "+", 5).__class__, list)
        self.assertIs(most_often([1, 2], "+").__class__, tuple)
        for told in (how_many_worths([1, 2], "+"), how_many_with([1, 2], "+", 3), how_many_with([1, 2], "+", 4)):
            self.assertIs(told.__class__, int)


class Together(unittest.TestCase):
    def test_all_counts_are_as_many_as_the_ways(self):
        for row in (NINE[:5], [0, 0, 1, 1, -1], [2, -2, 2], [7]):
            for signs in SIGNS_TO_PUT:
                together = sum(how_many_with(row, signs, number) for number in worths_of(row, signs))
                self.assertEqual(together, how_many_ways(signs, len(row)))

    def test_seven_numbers_with_all_signs(self):
        for row in (NINE[:7], TWELVE_FIGURES[:7], [0] * 7, [1, -1, 2, -2, 3, -3, 0]):
            many = how_many_worths(row, "+-*")
            worth, most = most_often(row, "+-*")
            self.assertIs(can_be(row, "+-*", worth), True)
            self.assertEqual(how_many_with(row, "+-*", worth), most)
            self.assertEqual(nearest_to(row, "+-*", worth), [worth])
            self.assertLessEqual(many, how_many_ways("+-*", 7))
            self.assertLessEqual(how_many_ways("+-*", 7), many * most)
        self.assertEqual(how_many_worths([0] * 7, "+-*"), 1)
        self.assertEqual(most_often([0] * 7, "+-*"), (0, 132 * 729))
        self.assertEqual(how_many_with([0] * 7, "+-*", 1), 0)

    def test_seven_numbers_of_all_ways(self):
        row = [1, -1, 2, -2, 3, -3, 5]
        many = collections.Counter(all_worths(row))
        self.assertEqual(sum(many.values()), how_many_ways("+-*", 7))
        self.assertEqual(how_many_worths(row, "+-*"), len(many))
        self.assertEqual(most_often(row, "+-*"), min(many.items(), key=lambda pair: (-pair[1], pair[0])))
        for number in sorted(many)[::len(many) // 9]:
            for near in (number, number + 1):
                self.assertEqual(how_many_with(row, "+-*", near), many[near])
                self.assertIs(can_be(row, "+-*", near), near in many)
                self.assertEqual(nearest_to(row, "+-*", near), nearest(many, near))


class Refused(unittest.TestCase):
    def test_no_row_then_no_signs(self):
        for thing in anything() + list(NO_ROWS):
            for call in OF_A_ROW:
                self.assertIs(refusal(call, thing, "+"), NoRow)
                self.assertIs(refusal(call, thing, thing), NoRow)
            for call in OF_A_NUMBER:
                self.assertIs(refusal(call, thing, "+", 1), NoRow)
                self.assertIs(refusal(call, thing, thing, thing), NoRow)
        for thing in anything() + list(NO_SIGNS):
            for row in ([5], NINE):
                for call in OF_A_ROW:
                    self.assertIs(refusal(call, row, thing), NoSigns)
                for call in OF_A_NUMBER:
                    self.assertIs(refusal(call, row, thing, 1), NoSigns)
                    self.assertIs(refusal(call, row, thing, True), NoSigns)

    def test_then_no_number_ahead_of_too_many(self):
        for call in OF_A_NUMBER:
            for thing in anything() + [True, False, [5], "5", ("+", 1, 2)]:
                for row in ([5], [1, 2], NINE[:7], NINE[:8], NINE):
                    self.assertIs(refusal(call, row, "+-*", thing), NoNumber)

    def test_too_many(self):
        for signs in SIGNS_TO_PUT:
            for many in range(1, 10):
                for numbers in (NINE, [0] * 9):
                    row = numbers[:many]
                    self.assertIs(refusal(worths_of, row, signs), TooMany if many > 6 else None)
                    due = TooMany if many > 7 else None
                    self.assertIs(refusal(how_many_worths, row, signs), due)
                    self.assertIs(refusal(most_often, row, signs), due)
                    for call in OF_A_NUMBER:
                        self.assertIs(refusal(call, row, signs, 10 ** 39), due)


if __name__ == "__main__":
    unittest.main()
