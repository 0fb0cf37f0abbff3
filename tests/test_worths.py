"""[8], [9]: worths of ways and of their parts, and how a worth hangs on the number at a place."""

import unittest

from putsigns.errors import NoNumber, NoPlace, NoWay
from putsigns.ways import is_way, numbers_of, signs_of, stretches_of
from putsigns.worths import hangs_by, part_worths, with_number, worth_of
from samples import NINE, NO_WAYS, TWELVE_FIGURES, all_ways, anything, left_way, refusal, right_way, worth, written

MIXED = ("*", ("-", 4, ("+", 5, 6)), ("*", 7, -8))
FORTY_FIGURES = 10 ** 40 - 1
PUT = (0, 1, -1, 2, -7, 10 ** 12 - 1, 1 - 10 ** 12, FORTY_FIGURES, -FORTY_FIGURES)


def some_ways():
    """Ways of one to nine numbers, with each sign and with signs mixed, of numbers small, great and below 0."""
    ways = [MIXED]
    for many in range(1, 10):
        for numbers in (NINE[:many], TWELVE_FIGURES[:many], [-2] * many, [0] * many, [3, 0, -1] * 3):
            for sign in "+-*":
                ways += [left_way(numbers[:many], sign), right_way(numbers[:many], sign)]
    for numbers in (NINE, TWELVE_FIGURES, [5, -3, 0, 1, 2, -2, 4, -1, 7]):
        for one, other, between in ("+-*", "-*+", "*+-", "-+-", "*-*"):
            ways.append((between, left_way(numbers[:4], one), right_way(numbers[4:], other)))
            ways.append((between, right_way(numbers[:6], other), (one, left_way(numbers[6:8], between), numbers[8])))
    return ways


def parts(way, first=0):
    """All parts of a way, each as (stretch, part)."""
    if isinstance(way, int):
        return [((first, first), way)]
    lefts = parts(way[1], first)
    rights = parts(way[2], max(last for (start, last), part in lefts) + 1)
    last = max(last for (start, last), part in rights)
    return lefts + rights + [((first, last), way)]


class Worths(unittest.TestCase):
    def test_of_a_lone_number(self):
        for number in (0, 7, -7, 10 ** 12 - 1, 1 - 10 ** 12, 10 ** 5000):
            self.assertEqual(worth_of(number), number)

    def test_of_each_sign(self):
        self.assertEqual(worth_of(("+", 7, 3)), 10)
        self.assertEqual(worth_of(("-", 7, 3)), 4)
        self.assertEqual(worth_of(("-", 3, 7)), -4)
        self.assertEqual(worth_of(("*", 7, 3)), 21)
        self.assertEqual(worth_of(("*", -7, 3)), -21)
        self.assertEqual(worth_of(("-", -7, -3)), -4)

    def test_of_longer_ways(self):
        self.assertEqual(worth_of(MIXED), (4 - (5 + 6)) * (7 * -8))
        self.assertEqual(worth_of(left_way(NINE, "-")), 1 - 44)
        self.assertEqual(worth_of(right_way(NINE, "-")), 1 - 2 + 3 - 4 + 5 - 6 + 7 - 8 + 9)
        self.assertEqual(worth_of(left_way(NINE, "*")), 362880)
        self.assertEqual(worth_of(right_way(NINE, "+")), 45)
        self.assertEqual(worth_of(("*", 999999999999, 999999999999)), 999999999998000000000001)

    def test_as_the_writing_is_reckoned(self):
        for way in all_ways([5, -2, 3, -7], "+-*") + some_ways():
            self.assertEqual(worth_of(way), eval(written(way).replace("~", "-")))


class PartWorths(unittest.TestCase):
    def test_written_out(self):
        self.assertEqual(part_worths(7), {(0, 0): 7})
        self.assertEqual(part_worths(("-", 7, 3)), {(0, 0): 7, (1, 1): 3, (0, 1): 4})
        self.assertEqual(part_worths(MIXED), {
            (0, 0): 4, (1, 1): 5, (2, 2): 6, (3, 3): 7, (4, 4): -8,
            (1, 2): 11, (0, 2): -7, (3, 4): -56, (0, 4): 392,
        })

    def test_all_parts_and_no_other(self):
        for way in all_ways([5, -2, 3, -7], "+-*") + some_ways():
            told = part_worths(way)
            lone = [(place, place) for place in range(len(numbers_of(way)))]
            self.assertEqual(sorted(told), sorted(lone + stretches_of(way)))
            self.assertEqual(told, {stretch: worth(part) for stretch, part in parts(way)})
            self.assertEqual(told[(0, len(lone) - 1)], worth_of(way))

    def test_kinds_of_values(self):
        told = part_worths(MIXED)
        self.assertIs(told.__class__, dict)
        for stretch, number in told.items():
            self.assertEqual((stretch.__class__, number.__class__), (tuple, int))


class Hanging(unittest.TestCase):
    def test_written_out(self):
        self.assertEqual(hangs_by(7, 0), (1, 0))
        self.assertEqual([hangs_by(("+", 7, 3), place) for place in (0, 1)], [(1, 3), (1, 7)])
        self.assertEqual([hangs_by(("-", 7, 3), place) for place in (0, 1)], [(1, -3), (-1, 7)])
        self.assertEqual([hangs_by(("*", 7, 3), place) for place in (0, 1)], [(3, 0), (7, 0)])
        self.assertEqual([hangs_by(MIXED, place) for place in range(5)],
                         [(-56, 616), (56, 112), (56, 56), (56, 0), (-49, 0)])

    def test_whatever_number_is_put(self):
        for way in all_ways([5, -2, 3, -7], "+-*") + some_ways():
            for place, there in enumerate(numbers_of(way)):
                told = hangs_by(way, place)
                self.assertIs(told.__class__, tuple)
                times, plus = told
                self.assertEqual(worth(way), times * there + plus)
                for number in PUT:
                    self.assertEqual(worth(with_number(way, place, number)), times * number + plus)


class WithNumber(unittest.TestCase):
    def test_written_out(self):
        self.assertEqual(with_number(7, 0, -3), -3)
        self.assertEqual(with_number(("-", 7, 3), 1, 5), ("-", 7, 5))
        self.assertEqual(with_number(MIXED, 2, 9), ("*", ("-", 4, ("+", 5, 9)), ("*", 7, -8)))
        self.assertEqual(with_number(("+", 2, ("+", 2, 2)), 1, 3), ("+", 2, ("+", 3, 2)))

    def test_changes_that_number_alone(self):
        for way in all_ways([5, -2, 3, -7], "+-*") + some_ways():
            for place in range(len(numbers_of(way))):
                for number in PUT:
                    told = with_number(way, place, number)
                    due = numbers_of(way)
                    due[place] = number
                    self.assertTrue(is_way(told))
                    self.assertEqual(numbers_of(told), due)
                    self.assertEqual((signs_of(told), stretches_of(told)), (signs_of(way), stretches_of(way)))

    def test_the_same_number_gives_the_same_way(self):
        for way in some_ways():
            for place, there in enumerate(numbers_of(way)):
                self.assertEqual(with_number(way, place, there), way)


class Refused(unittest.TestCase):
    def test_no_way(self):
        for thing in anything() + list(NO_WAYS):
            self.assertIs(refusal(worth_of, thing), NoWay)
            self.assertIs(refusal(part_worths, thing), NoWay)
            for place in (0, -1, None, thing):
                self.assertIs(refusal(hangs_by, thing, place), NoWay)
                self.assertIs(refusal(with_number, thing, place, 1), NoWay)
                self.assertIs(refusal(with_number, thing, place, thing), NoWay)

    def test_no_place(self):
        for many in range(1, 10):
            way = right_way(NINE[:many], "-")
            for thing in anything() + [-1, -many, many, many + 1, 10 ** 39, -10 ** 39, True, False, (0, 0), [0], "0"]:
                self.assertIs(refusal(hangs_by, way, thing), NoPlace)
                self.assertIs(refusal(with_number, way, thing, 1), NoPlace)
                self.assertIs(refusal(with_number, way, thing, True), NoPlace)
                self.assertIs(refusal(with_number, way, thing, thing), NoPlace)

    def test_no_number(self):
        for way in (7, MIXED, left_way(NINE, "*")):
            for place in range(len(numbers_of(way))):
                for thing in anything() + [True, False, ("+", 1, 2), [5], "5"]:
                    self.assertIs(refusal(with_number, way, place, thing), NoNumber)


if __name__ == "__main__":
    unittest.main()
