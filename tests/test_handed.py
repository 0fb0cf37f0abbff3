"""[2]: what is handed in stays as it is, and what is told is the asker's own."""

import copy
import unittest

from putsigns.bounds import bounds_of, first_greatest, first_least, greatest_of, least_of
from putsigns.counted import first_way, how_many_forms, how_many_twins, nth_form, number_of_form
from putsigns.desk import Desk
from putsigns.errors import PutError
from putsigns.every import can_be, how_many_with, how_many_worths, most_often, nearest_to, worths_of
from putsigns.flat import flat_way_to, flat_worths
from putsigns.forms import are_twins, form_of
from putsigns.held import bounds_held, first_held, greatest_held, how_many_held, is_holds, least_held
from putsigns.held import may_be_parts, must_be_parts
from putsigns.ordered import how_many_ways, nth_way, number_of_way
from putsigns.papers import bounds_paper, bounds_say, greatest_shown, least_shown
from putsigns.rests import never_paper, rest_counts, rests_paper, rests_say, way_to_rest
from putsigns.texts import holds_text, read_holds, read_row, read_way, row_text, way_text
from putsigns.told import fewest_brackets, way_to
from putsigns.ways import brackets_in, is_row, is_signs, is_way
from putsigns.ways import numbers_of, signs_of, stretches_of, way_by
from putsigns.worths import hangs_by, part_worths, with_number, worth_of
from samples import REFUSALS, left_way, refusal

WAY = ("*", ("-", 4, ("+", 5, 6)), ("*", 7, -8))
ROW = [4, 5, 6, 7, -8]
STRETCHES = [(3, 4), (0, 4), (1, 2), (0, 2)]
LONG = [3, 1, -4, 1, 5, -9, 2, 6]
FORM = ("times", (("sum", (("+", 4), ("-", 5), ("-", 6))), 7, -8))
PAPER = bounds_paper(ROW, "+-*")
HOLDS = ([(3, 4), (1, 2), (1, 2)], [(0, 1)])
RESTS = rests_paper(ROW, "+-*", 7)
OF_HOLDS = (how_many_held, first_held, bounds_held, greatest_held, least_held, may_be_parts, must_be_parts)

ANSWERED = (
    (is_row, [ROW]), (is_row, [[1, [2]]]), (is_signs, [["+"]]), (is_way, [WAY]), (is_way, [("+", [1], [2])]),
    (numbers_of, [WAY]), (signs_of, [WAY]), (stretches_of, [WAY]), (brackets_in, [WAY]),
    (way_by, [ROW, "-+**", STRETCHES]), (way_by, [ROW, ["-"], STRETCHES]), (way_by, [ROW, "-+**", [[0, 1], {}]]),
    (how_many_ways, ["+-*", 5]), (nth_way, [ROW, "+-*", 700]), (number_of_way, [WAY, "+-*"]),
    (worth_of, [WAY]), (part_worths, [WAY]), (hangs_by, [WAY, 2]), (with_number, [WAY, 2, 10 ** 39]),
    (greatest_of, [ROW, "+-*"]), (least_of, [ROW, "+-*"]), (first_greatest, [ROW, "+-*"]),
    (first_least, [ROW, "+-*"]), (bounds_of, [ROW, "+-*"]),
    (worths_of, [ROW, "+-*"]), (how_many_worths, [ROW, "+-*"]), (can_be, [ROW, "+-*", 392]),
    (nearest_to, [ROW, "+-*", 391]), (how_many_with, [ROW, "+-*", 392]), (most_often, [ROW, "+-*"]),
    (way_to, [ROW, "+-*", 392]), (fewest_brackets, [ROW, "+-*", 392]),
    (flat_worths, [ROW, "+-*"]), (flat_way_to, [ROW, "+-*", -63]), (flat_way_to, [LONG, "+-*", 10 ** 39]),
    (form_of, [WAY]), (are_twins, [WAY, WAY]), (how_many_forms, ["+-*", 5]), (nth_form, [ROW, "+-*", 300]),
    (number_of_form, [ROW, "+-*", FORM]), (first_way, [ROW, "+-*", FORM]), (how_many_twins, [ROW, "+-*", FORM]),
    (bounds_paper, [ROW, "+-*"]), (bounds_say, [ROW, "+-*", PAPER]), (bounds_say, [ROW, "+-*", {(0, 0): [4, 4]}]),
    (bounds_say, [ROW, "+-*", {**PAPER, (0, 4): [0, 0]}]), (greatest_shown, [ROW, "+-*", WAY, PAPER]),
    (least_shown, [ROW, "+-*", [WAY], PAPER]), (least_shown, [ROW, "+-*", WAY, [PAPER]]),
    (is_holds, [HOLDS, 5]), (is_holds, [HOLDS, [5]]), (is_holds, [[HOLDS], 5]), (rest_counts, [ROW, "+-*", 7]),
    (way_to_rest, [ROW, "+-*", 7, 3]), (rests_say, [ROW, "+-*", RESTS]), (rests_say, [ROW, "+-*", [RESTS]]),
    (rests_say, [ROW, "+-*", (7, {(0, 0): [4]})]), (rests_paper, [ROW, "+-*", 7]), (never_paper, [ROW, "*", 1]),
    (never_paper, [ROW, "+-*", 392]), (row_text, [ROW]), (way_text, [WAY]), (holds_text, [HOLDS]),
    (read_row, ["4 5 6 7 ~8"]), (read_way, ["(4-(5+6))*(7*~8)"]), (read_holds, ["3-4 1-2 / 0-1"]),
) + tuple((call, [ROW, "+-*", HOLDS]) for call in OF_HOLDS)
REFUSED = (
    (numbers_of, [[1, 2]]), (signs_of, [("+", 1, [2])]), (stretches_of, [[WAY]]), (brackets_in, [{1: [2]}]),
    (way_by, [[1, [2]], ["+"], STRETCHES]), (how_many_ways, [["+"], [1]]), (how_many_ways, ["+", [1]]),
    (nth_way, [[ROW], ["+"], [0]]), (nth_way, [ROW, ["+"], [0]]), (nth_way, [ROW, "+", [0]]),
    (number_of_way, [[WAY], ["+"]]), (number_of_way, [WAY, ["+"]]), (number_of_way, [WAY, "+"]),
    (worth_of, [[WAY]]), (part_worths, [[WAY]]), (hangs_by, [[WAY], 0]), (hangs_by, [WAY, [0]]),
    (with_number, [[WAY], 0, 1]), (with_number, [WAY, [0], 1]), (with_number, [WAY, 0, [1]]),
    (can_be, [[ROW], "+", 1]), (can_be, [ROW, ["+"], 1]), (can_be, [ROW, "+", [1]]), (can_be, [LONG, "+", 1]),
    (nearest_to, [ROW, "+", [1]]), (nearest_to, [LONG, "+", 1]), (how_many_with, [ROW, "+", {1: [1]}]),
    (how_many_with, [LONG, "+", 1]), (way_to, [[ROW], "+", 1]), (way_to, [ROW, ["+"], 1]),
    (way_to, [ROW, "+", [1]]), (way_to, [LONG, "+", 1]), (fewest_brackets, [ROW, "+", [1]]),
    (fewest_brackets, [LONG, "+", 1]), (flat_way_to, [[ROW], "+", 1]), (flat_way_to, [ROW, ["+"], 1]),
    (flat_way_to, [ROW, "+", [1]]), (form_of, [[WAY]]), (are_twins, [[WAY], WAY]), (are_twins, [WAY, [WAY]]),
    (how_many_forms, [["+"], 5]), (how_many_forms, ["+", [5]]), (nth_form, [[ROW], "+", 0]),
    (nth_form, [ROW, ["+"], 0]), (nth_form, [ROW, "+", [0]]), (nth_form, [ROW, "+", 1]),
    (rest_counts, [[ROW], "+", 2]), (rest_counts, [ROW, ["+"], 2]), (rest_counts, [ROW, "+", [2]]),
    (way_to_rest, [[ROW], "+", 2, 0]), (way_to_rest, [ROW, ["+"], 2, 0]), (way_to_rest, [ROW, "+", [2], 0]),
    (way_to_rest, [ROW, "+", 2, [0]]), (rests_say, [[ROW], "+", RESTS]), (rests_say, [ROW, ["+"], RESTS]),
    (rests_paper, [[ROW], "+", 2]), (rests_paper, [ROW, "+", [2]]), (never_paper, [[ROW], "+", 2]),
    (never_paper, [ROW, "+", [2]]), (row_text, [[ROW]]), (way_text, [[WAY]]), (holds_text, [[HOLDS]]),
    (holds_text, [([[0, 1]], [])]), (read_row, [["1"]]), (read_way, [["1"]]), (read_holds, [["/"]]),
    (Desk().answer, [["most"]]),
) + tuple(
    (call, list(arguments))
    for call in OF_HOLDS
    for arguments in ([[ROW], "+", HOLDS], [ROW, ["+"], HOLDS], [ROW, "+", [HOLDS]], [ROW, "+", ([[0, 1]], [])])
) + tuple(
    (call, list(arguments))
    for call in (number_of_form, first_way, how_many_twins, bounds_say)
    for arguments in ([[ROW], "+-*", FORM], [ROW, ["+-*"], FORM])
) + tuple(
    (call, list(arguments))
    for call in (number_of_form, first_way, how_many_twins)
    for arguments in ([ROW, "+-*", [FORM]], [ROW, "+-*", ("times", [7, -8])], [ROW, "+-", FORM])
) + tuple(
    (call, list(arguments))
    for call in (greatest_shown, least_shown)
    for arguments in ([[ROW], "+-*", WAY, PAPER], [ROW, ["+-*"], WAY, PAPER])
) + tuple(
    (call, list(arguments))
    for call in (greatest_of, least_of, first_greatest, first_least, bounds_of, flat_worths, bounds_paper)
    for arguments in ([[ROW], "+"], [ROW, ["+"]], [[1, [2]], {"+": [1]}])
) + tuple(
    (call, list(arguments))
    for call in (worths_of, how_many_worths, most_often)
    for arguments in ([[ROW], "+"], [ROW, ["+"]], [LONG, "+"])
)


def lists_within(thing):
    """All lists and dicts within a thing, itself too, as often as they stand there."""
    own = [thing] if isinstance(thing, (list, dict)) else []
    parts = thing.values() if isinstance(thing, dict) else thing if isinstance(thing, (list, tuple)) else ()
    return own + [inner for part in parts for inner in lists_within(part)]


def spoil(thing):
    """Change all lists and dicts within a thing."""
    for inner in lists_within(thing):
        inner.clear()
        if isinstance(inner, list):
            inner.append("spoilt")


class HandedIn(unittest.TestCase):
    def test_is_the_same_behind_each_call(self):
        for call, arguments in ANSWERED:
            handed = copy.deepcopy(arguments)
            call(*handed)
            self.assertEqual(handed, arguments, call)

    def test_is_the_same_behind_a_refused_call(self):
        for call, arguments in REFUSED:
            handed = copy.deepcopy(arguments)
            self.assertIn(refusal(call, *handed), REFUSALS)
            self.assertEqual(handed, arguments, call)

    def test_is_not_kept(self):
        row, stretches = list(ROW), list(STRETCHES)
        joined, told = way_by(row, "-+**", stretches), nth_way(row, "+-*", number_of_way(WAY, "+-*"))
        row[0] = 99
        row.append(1)
        stretches.clear()
        self.assertEqual((joined, told), (WAY, WAY))
        self.assertEqual(way_by(ROW, "-+**", STRETCHES), WAY)


class Told(unittest.TestCase):
    def test_the_same_is_answered_the_same(self):
        before = [call(*arguments) for call, arguments in ANSWERED]
        for call, arguments in REFUSED:
            refusal(call, *arguments)
        self.assertEqual([call(*arguments) for call, arguments in ANSWERED], before)

    def test_refusals_are_the_same_again(self):
        before = [refusal(call, *arguments) for call, arguments in REFUSED]
        self.assertEqual([refusal(call, *arguments) for call, arguments in REFUSED], before)

    def test_a_told_list_is_the_askers_own(self):
        for call in (numbers_of, stretches_of):
            for way in (7, WAY, left_way(list(range(9)))):
                first, second = call(way), call(way)
                due = list(first)
                first.append((0, 0))
                first.reverse()
                self.assertEqual(second, due)
                self.assertEqual(call(way), due)

    def test_told_lists_and_dicts_are_the_askers_own(self):
        seen = set()
        for call, arguments in ANSWERED:
            handed = copy.deepcopy(arguments)
            first, second = call(*handed), call(*handed)
            if not lists_within(first):
                continue
            seen.add(call)
            # Neither is one with another, nor with one that was handed in.
            every = lists_within(first) + lists_within(second) + lists_within(handed)
            self.assertEqual(len({id(thing) for thing in every}), len(every), call)
            due = copy.deepcopy(first)
            spoil(first)
            self.assertEqual(second, due, call)
            self.assertEqual(call(*handed), due, call)
            self.assertEqual(handed, arguments, call)
        self.assertLessEqual({numbers_of, bounds_of, bounds_paper, may_be_parts, must_be_parts, rest_counts, rests_say,
                              rests_paper, never_paper, read_row, read_holds, flat_worths}, seen)

    def test_what_becomes_of_what_was_handed_in_changes_nothing_told(self):
        for call, arguments in ANSWERED:
            handed = copy.deepcopy(arguments)
            told = call(*handed)
            due = copy.deepcopy(told)
            for thing in handed:
                spoil(thing)
            self.assertEqual(told, due, call)
            self.assertEqual(call(*arguments), due, call)

    def test_every_refusal_is_a_put_error_and_a_value_error(self):
        for call, arguments in REFUSED:
            with self.assertRaises(PutError):
                call(*arguments)
            with self.assertRaises(ValueError):
                call(*arguments)


if __name__ == "__main__":
    unittest.main()
