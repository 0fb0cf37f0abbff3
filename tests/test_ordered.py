"""[7]: the ways of a row with signs to put, in their order."""

import unittest

from putsigns.errors import NoFit, NoNumber, NoRow, NoSigns, NoWay
from putsigns.ordered import how_many_ways, nth_way, number_of_way
from samples import NINE, SIGNS_TO_PUT, anything, left_way, refusal, right_way, ways_in_order

BRACKETINGS = (1, 1, 2, 5, 14, 42, 132, 429, 1430)
NO_NUMBERS = (-1, True, False, "0", None, [0], (0,), {}, 10 ** 39, -10 ** 39)


class HowMany(unittest.TestCase):
    def test_one_to_nine_numbers_with_each_of_the_signs(self):
        for signs in SIGNS_TO_PUT:
            for many in range(1, 10):
                self.assertEqual(how_many_ways(signs, many), BRACKETINGS[many - 1] * len(signs) ** (many - 1))
        self.assertEqual(how_many_ways("+-*", 9), 9382230)

    def test_no_numbers(self):
        for many in NO_NUMBERS + (0, 10, 11):
            self.assertIs(refusal(how_many_ways, "+", many), NoNumber)
        for thing in anything():
            self.assertIs(refusal(how_many_ways, "+-*", thing), NoNumber)

    def test_no_signs_go_first(self):
        for thing in anything() + [5, [5], ("+", 1, 2)]:
            self.assertIs(refusal(how_many_ways, thing, 3), NoSigns)
            self.assertIs(refusal(how_many_ways, thing, 0), NoSigns)
            self.assertIs(refusal(how_many_ways, thing, thing), NoSigns)


class Order(unittest.TestCase):
    def test_three_numbers_written_out(self):
        ways = [
            ("+", 1, ("+", 2, 3)), ("+", 1, ("*", 2, 3)), ("*", 1, ("+", 2, 3)), ("*", 1, ("*", 2, 3)),
            ("+", ("+", 1, 2), 3), ("+", ("*", 1, 2), 3), ("*", ("+", 1, 2), 3), ("*", ("*", 1, 2), 3),
        ]
        self.assertEqual([nth_way([1, 2, 3], "+*", number) for number in range(8)], ways)
        self.assertEqual([number_of_way(way, "+*") for way in ways], list(range(8)))

    def test_all_ways_of_short_rows(self):
        for signs in SIGNS_TO_PUT:
            for row in ([7], [5, -5], [1, 2, 3], [0, 0, 0, 0], [4, -3, 2, -1], [2, 2, 3, 3, 10 ** 4400]):
                for number, way in enumerate(ways_in_order(row, signs)):
                    self.assertEqual(nth_way(row, signs, number), way)
                    self.assertEqual(number_of_way(way, signs), number)

    def test_six_numbers(self):
        ways = ways_in_order(NINE[:6], "+-")
        self.assertEqual(len(ways), how_many_ways("+-", 6))
        for number, way in enumerate(ways):
            self.assertEqual(nth_way(NINE[:6], "+-", number), way)
            self.assertEqual(number_of_way(way, "+-"), number)

    def test_first_and_last_of_nine_numbers(self):
        for signs in SIGNS_TO_PUT:
            last = how_many_ways(signs, 9) - 1
            self.assertEqual(nth_way(NINE, signs, 0), right_way(NINE, signs[0]))
            self.assertEqual(number_of_way(right_way(NINE, signs[0]), signs), 0)
            self.assertEqual(nth_way(NINE, signs, last), left_way(NINE, signs[-1]))
            self.assertEqual(number_of_way(left_way(NINE, signs[-1]), signs), last)

    def test_one_amid_nine_numbers(self):
        # Ahead are those with one to three numbers left, 3 signs x (429 + 132 + 2 x 42) x 3 to the 7 of them, and,
        # with four left and five right, those with "+", 5 x 27 left ways by 14 x 81 right ones.
        ahead = 3 * (429 + 132 + 2 * 42) * 3 ** 7 + 5 * 27 * 14 * 81
        way = ("-", right_way(NINE[:4]), right_way(NINE[4:]))
        self.assertEqual(nth_way(NINE, "+-*", ahead), way)
        self.assertEqual(number_of_way(way, "+-*"), ahead)
        next_but_one = ("-", right_way(NINE[:4]), ("+", 5, ("+", 6, ("+", 7, ("*", 8, 9)))))
        self.assertEqual(nth_way(NINE, "+-*", ahead + 2), next_but_one)
        self.assertEqual(number_of_way(next_but_one, "+-*"), ahead + 2)

    def test_nine_numbers_there_and_back(self):
        for signs in SIGNS_TO_PUT:
            many = how_many_ways(signs, 9)
            for number in sorted(set(range(0, many, many // 97)) | {many // 2, many - 1}):
                self.assertEqual(number_of_way(nth_way(NINE, signs, number), signs), number)

    def test_a_lone_number(self):
        for signs in SIGNS_TO_PUT:
            self.assertEqual(nth_way([-6], signs, 0), -6)
            self.assertEqual(number_of_way(-6, signs), 0)


class Refused(unittest.TestCase):
    def test_numbers_that_there_are_not(self):
        for signs in SIGNS_TO_PUT:
            for many in range(1, 10):
                row = NINE[:many]
                for number in NO_NUMBERS + (how_many_ways(signs, many), how_many_ways(signs, many) + 1):
                    self.assertIs(refusal(nth_way, row, signs, number), NoNumber)
        for thing in anything():
            self.assertIs(refusal(nth_way, NINE, "+-*", thing), NoNumber)

    def test_no_row_then_no_signs_then_no_number(self):
        for thing in anything() + [5, ("+", 1, 2), "+"]:
            self.assertIs(refusal(nth_way, thing, "+", 0), NoRow)
            self.assertIs(refusal(nth_way, thing, thing, thing), NoRow)
        for thing in anything() + [5, ("+", 1, 2), [5]]:
            self.assertIs(refusal(nth_way, [1, 2], thing, 0), NoSigns)
            self.assertIs(refusal(nth_way, [1, 2], thing, -1), NoSigns)
            self.assertIs(refusal(nth_way, [1, 2], thing, thing), NoSigns)

    def test_no_way_then_no_signs_then_no_fit(self):
        for thing in anything() + ["+", [5], left_way(NINE + [10])]:
            self.assertIs(refusal(number_of_way, thing, "+"), NoWay)
            self.assertIs(refusal(number_of_way, thing, thing), NoWay)
        for thing in anything() + [5, [5], ("+", 1, 2)]:
            self.assertIs(refusal(number_of_way, 5, thing), NoSigns)
            self.assertIs(refusal(number_of_way, ("*", 1, 2), thing), NoSigns)

    def test_ways_with_another_sign_do_not_fit(self):
        for signs in SIGNS_TO_PUT:
            for sign in "+-*":
                for way in ((sign, 1, 2), (signs[0], (sign, 1, 2), 3), (signs[0], 1, (sign, 2, 3))):
                    due = None if sign in signs else NoFit
                    self.assertIs(refusal(number_of_way, way, signs), due)


if __name__ == "__main__":
    unittest.main()
