"""[4], [5], [6]: what rows, signs to put and ways are, and what a way is made of."""

import itertools
import unittest

from putsigns.errors import NoRow, NoWay
from putsigns.ways import brackets_in, is_row, is_signs, is_way
from putsigns.ways import numbers_of, signs_of, stretches_of, way_by
from samples import NINE, SIGNS_TO_PUT, Prickly, all_ways, anything, left_way, refusal, right_way, within, written

GREAT = 10 ** 5000
MIXED = ("*", ("-", 4, ("+", 5, 6)), ("*", 7, -8))


class Rows(unittest.TestCase):
    def test_rows(self):
        for row in ([0], [-3], NINE, [1, 1], [GREAT, -GREAT], [0] * 9, [10 ** 12 - 1] * 8):
            self.assertIs(is_row(row), True)

    def test_no_rows(self):
        for thing in ([], [1] * 10, [True], [1, False], [1] * 8 + [True], (1,), (1, 2), 1, "1", "12", {1: 2}, {1},
                      [1, "2"], [1, None], [[1]], [1, [2]], range(3), b"12", ("+", 1, 2), [("+", 1, 2)]):
            self.assertIs(is_row(thing), False)

    def test_of_anything(self):
        for thing in anything() + [5, "+", ("+", 1, 2)]:
            self.assertIs(is_row(thing), False)


class Signs(unittest.TestCase):
    def test_just_seven_texts_are_signs_to_put(self):
        texts = ["".join(signs) for many in range(5) for signs in itertools.product("+-*/", repeat=many)]
        self.assertEqual(sorted(filter(is_signs, texts)), sorted(SIGNS_TO_PUT))
        for text in texts:
            self.assertIs(is_signs(text), text in SIGNS_TO_PUT)

    def test_no_signs_to_put(self):
        for thing in (" +", "+ ", "+\n", "+, -", "~", "x", ["+"], ("+", "-"), ["+-*"], b"+", b"+-*", {"+": 1}, {"+"}):
            self.assertIs(is_signs(thing), False)

    def test_of_anything(self):
        for thing in anything() + [5, [5], ("+", 1, 2)]:
            self.assertIs(is_signs(thing), False)


class Ways(unittest.TestCase):
    def test_ways(self):
        for way in (0, -7, GREAT, ("+", 1, 2), ("-", -GREAT, GREAT), MIXED, ("*", ("*", 1, 1), ("*", 1, 1))):
            self.assertIs(is_way(way), True)
        for sign in "+-*":
            self.assertIs(is_way(left_way(NINE, sign)), True)
            self.assertIs(is_way(right_way(NINE, sign)), True)
            self.assertIs(is_way((sign, left_way(NINE[:4], sign), right_way(NINE[4:], sign))), True)

    def test_ten_numbers_are_too_many(self):
        ten = NINE + [10]
        for sign in "+-*":
            self.assertIs(is_way(left_way(ten, sign)), False)
            self.assertIs(is_way(right_way(ten, sign)), False)
            self.assertIs(is_way((sign, left_way(ten[:5], sign), right_way(ten[5:], sign))), False)

    def test_what_is_no_way_at_any_depth(self):
        wrong = [
            True, False, None, "1", "", [1], ["+", 1, 2], ("+", 1), ("+",), (), ("+", 1, 2, 3), ("/", 1, 2),
            ("", 1, 2), ("+-", 1, 2), ("+ ", 1, 2), (b"+", 1, 2), (1, "+", 2), (None, 1, 2), {"+": (1, 2)}, {1},
            ("+", True, 2), ("+", 1, False), ("+", 1, [2]), (["+"], 1, 2), (1, 2, 3), Prickly(), (Prickly(), 1, 2),
        ]
        for thing in wrong:
            self.assertIs(is_way(thing), False)
            for depth in range(1, 8):
                self.assertIs(is_way(within(thing, lambda part: ("*", part, 3), depth)), False)
                self.assertIs(is_way(within(thing, lambda part: ("-", 3, part), depth)), False)

    def test_deep_things(self):
        for depth in range(9, 51):
            self.assertIs(is_way(within(1, lambda part: ("+", part, 1), depth)), False)
            self.assertIs(is_way(within(1, lambda part: ("+", 1, part), depth)), False)
            self.assertIs(is_way(within(1, lambda part: (part,), depth)), False)
            self.assertIs(is_way(within(1, lambda part: ("+", part), depth)), False)
            self.assertIs(is_way(within([], lambda part: [part], depth)), False)

    def test_of_anything(self):
        for thing in anything() + ["+", [5]]:
            self.assertIs(is_way(thing), False)


class Parts(unittest.TestCase):
    def test_of_a_lone_number(self):
        for number in (0, -4, GREAT):
            self.assertEqual(numbers_of(number), [number])
            self.assertEqual(signs_of(number), "")
            self.assertEqual(stretches_of(number), [])
            self.assertEqual(way_by([number], "", []), number)

    def test_of_longer_ways(self):
        self.assertEqual(numbers_of(("-", 5, 3)), [5, 3])
        self.assertEqual(signs_of(("-", 5, 3)), "-")
        self.assertEqual(stretches_of(("-", 5, 3)), [(0, 1)])
        self.assertEqual(numbers_of(MIXED), [4, 5, 6, 7, -8])
        self.assertEqual(signs_of(MIXED), "-+**")
        self.assertEqual(stretches_of(MIXED), [(0, 2), (0, 4), (1, 2), (3, 4)])

    def test_of_nine_numbers(self):
        for way, stretches in ((left_way(NINE), [(0, last) for last in range(1, 9)]),
                               (right_way(NINE), [(first, 8) for first in range(8)])):
            self.assertEqual(numbers_of(way), NINE)
            self.assertEqual(signs_of(way), "+" * 8)
            self.assertEqual(stretches_of(way), stretches)

    def test_kinds_of_values(self):
        self.assertIs(numbers_of(MIXED).__class__, list)
        self.assertIs(signs_of(MIXED).__class__, str)
        self.assertIs(stretches_of(MIXED).__class__, list)
        for stretch in stretches_of(MIXED):
            self.assertIs(stretch.__class__, tuple)

    def test_refused_of_anything(self):
        for call in (numbers_of, signs_of, stretches_of, brackets_in):
            for thing in anything() + [[5], "+", left_way(NINE + [10])]:
                self.assertIs(refusal(call, thing), NoWay)


class WayBy(unittest.TestCase):
    def test_gives_each_way_again(self):
        for many in range(1, 6):
            for way in all_ways(NINE[:many], "+-*"):
                told = way_by(numbers_of(way), signs_of(way), stretches_of(way))
                self.assertEqual(told, way)

    def test_stretches_in_any_order(self):
        for stretches in itertools.permutations(stretches_of(MIXED)):
            self.assertEqual(way_by([4, 5, 6, 7, -8], "-+**", list(stretches)), MIXED)
        for way in (left_way(NINE, "-"), right_way(NINE, "*"), ("+", right_way(NINE[:6], "-"), left_way(NINE[6:]))):
            self.assertEqual(way_by(NINE, signs_of(way), stretches_of(way)[::-1]), way)

    def test_just_the_told_stretches_make_ways(self):
        numbers = NINE[:4]
        kept = {tuple(stretches_of(way)): way for way in all_ways(numbers, "+")}
        pairs = list(itertools.product(range(-1, 5), repeat=2))
        for stretches in itertools.product(pairs, repeat=3):
            told = way_by(numbers, "+++", list(stretches))
            self.assertEqual(told, kept.get(tuple(sorted(stretches))))

    def test_no_such_stretches(self):
        for stretches in (
            [(0, 2), (0, 4), (1, 2)], [(0, 2), (1, 2), (3, 4)], [], [(0, 2), (0, 2), (0, 4), (1, 2), (3, 4)],
            [(0, 2), (0, 4), (1, 2), (1, 2)], [(0, 4), (0, 2), (1, 3), (3, 4)], [(0, 4), (0, 2), (1, 3), (2, 4)],
            [(0, 2), (0, 4), (1, 2), (3, 3)], [(0, 2), (0, 4), (1, 2), (3, 4), (0, 0)], [(0, 2), (0, 4), (1, 2), (3, 5)],
            [(-1, 2), (0, 4), (1, 2), (3, 4)], [(2, 0), (0, 4), (1, 2), (3, 4)], [(0, 2), (0, 4), (1, 2), (3, 4, 5)],
            [(0, 2), (0, 4), (1, 2), [3, 4]], [(0, 2), (0, 4), (True, 2), (3, 4)], [(False, 2), (0, 4), (1, 2), (3, 4)],
            [(0, 2), (0, 4), (1, 2), (3,)], [(0, 2), (0, 4), (1, 2), "34"], [(0, 2), (0, 4), (1, 2), None],
            [(0, 2), (0, 4), (1, 2), Prickly()], [(0, 2), (0, 4), (1, 2), (3, Prickly())], [(0, 4)] * 4,
            ((0, 2), (0, 4), (1, 2), (3, 4)), {(0, 2): 1, (0, 4): 1, (1, 2): 1, (3, 4): 1},
            {(0, 2), (0, 4), (1, 2), (3, 4)}, [(0, 2), (0, 4), (1, 2), (3, GREAT)], [(0, 4)] * 300,
        ):
            self.assertIsNone(way_by([4, 5, 6, 7, -8], "-+**", stretches))

    def test_no_such_signs(self):
        stretches = stretches_of(MIXED)
        for between in ("", "-+*", "-+**+", "-+*/", "-+* ", "-+*\n", " -+**", ["-", "+", "*", "*"],
                        ("-", "+", "*", "*"), b"-+**", None, 4, {"-": 1, "+": 2, "*": 3, "/": 4}):
            self.assertIsNone(way_by([4, 5, 6, 7, -8], between, stretches))

    def test_signs_and_stretches_of_a_lone_number(self):
        for between, stretches in (("+", []), ("", [(0, 0)]), ("", [(0, 1)]), (None, []), ([], []), ("", ()), ("", None)):
            self.assertIsNone(way_by([7], between, stretches))

    def test_signs_and_stretches_may_be_anything(self):
        for row in ([7], [1, 2], NINE):
            for thing in anything():
                if thing.__class__ is not str or len(row) > 1:
                    self.assertIsNone(way_by(row, thing, []))
                self.assertIsNone(way_by(row, thing, thing))
        for thing in anything():
            self.assertIsNone(way_by([1, 2], thing, [(0, 1)]))
            self.assertIsNone(way_by([1, 2], "+", thing))

    def test_no_row_is_refused(self):
        for thing in anything() + [5, "+", ("+", 1, 2), (1, 2)]:
            self.assertIs(refusal(way_by, thing, "+", [(0, 1)]), NoRow)
            self.assertIs(refusal(way_by, thing, None, thing), NoRow)


class Brackets(unittest.TestCase):
    def test_none_of_a_number(self):
        for number in (0, 3, -3, GREAT, -GREAT):
            self.assertEqual(brackets_in(number), 0)

    def test_none_between_two_numbers(self):
        for sign in "+-*":
            self.assertEqual(brackets_in((sign, -1, -2)), 0)

    def test_left_and_right_ways_below_each_sign(self):
        # (own sign, sign of the lower way): pairs where it is left, where it is right
        table = {
            ("+", "+"): (0, 1), ("+", "-"): (0, 1), ("+", "*"): (0, 0),
            ("-", "+"): (0, 1), ("-", "-"): (0, 1), ("-", "*"): (0, 0),
            ("*", "+"): (1, 1), ("*", "-"): (1, 1), ("*", "*"): (0, 1),
        }
        for (own, lower), (left, right) in table.items():
            self.assertEqual(brackets_in((own, (lower, 1, 2), 3)), left, (own, lower))
            self.assertEqual(brackets_in((own, 1, (lower, 2, 3))), right, (own, lower))
            self.assertEqual(brackets_in((own, (lower, 1, 2), (lower, 3, 4))), left + right, (own, lower))

    def test_within_one_another(self):
        self.assertEqual(brackets_in(MIXED), 3)
        self.assertEqual(brackets_in(right_way(NINE)), 7)
        self.assertEqual(brackets_in(left_way(NINE, "*")), 0)
        self.assertEqual(brackets_in(right_way(NINE, "*")), 7)

    def test_as_many_as_are_written(self):
        for way in all_ways([1, -2, 3, -4, 5], "+-*"):
            self.assertEqual(brackets_in(way), written(way).count("("))


if __name__ == "__main__":
    unittest.main()
