"""[17], [18]: the forms of a row in their order, counted, and the ways that have them."""

import time
import unittest

from putsigns.counted import first_way, how_many_forms, how_many_twins, nth_form, number_of_form
from putsigns.errors import NoForm, NoNumber, NoRow, NoSigns
from putsigns.ordered import how_many_ways, nth_way, number_of_way
from putsigns.ways import numbers_of, signs_of
from samples import NINE, NO_ROWS, NO_SIGNS, Prickly, SIGNS_TO_PUT, TWELVE_FIGURES
from samples import anything, compare_forms, form, forms_in_order, listed, refusal, right_way, within

OF_A_FORM = (number_of_form, first_way, how_many_twins)
ROWS = ([7], [-7], [5, -5], [2, 2], [1, 2, 3], [0, 0, 0], [4, -3, 2, -1], [1, 1, 1, 1], TWELVE_FIGURES[:5], [2] * 5)


def sum_of(*terms):
    return ("sum", tuple((term[0], int(term[1:])) for term in terms))


def some_numbers(many):
    """The first, the last, and some amid of so many numbers from 0 on."""
    return sorted(set(range(0, many, many // 97 + 1)) | {0, many // 2, many - 1})


class AgainstAllWays(unittest.TestCase):
    def test_forms_in_their_order(self):
        for row in ROWS:
            for signs in SIGNS_TO_PUT:
                forms = forms_in_order(row, signs)
                self.assertEqual(how_many_forms(signs, len(row)), len(forms))
                self.assertEqual([nth_form(row, signs, number) for number in range(len(forms))], forms)
                self.assertEqual([number_of_form(row, signs, one) for one in forms], list(range(len(forms))))

    def test_ways_of_forms(self):
        for row in ROWS:
            for signs in SIGNS_TO_PUT:
                ways_by_form = {}
                for way, number in listed(row, signs):
                    ways_by_form.setdefault(form(way), []).append(way)
                for one, ways in ways_by_form.items():
                    self.assertEqual(first_way(row, signs, one), ways[0])
                    self.assertEqual(how_many_twins(row, signs, one), len(ways))

    def test_six_numbers(self):
        row = [1, -2, 3, 3, 0, 5]
        for signs in ("-", "-*", "+-*"):
            ways_by_form = {}
            for way, number in listed(row, signs):
                ways_by_form.setdefault(form(way), []).append(way)
            forms = forms_in_order(row, signs)
            self.assertEqual(how_many_forms(signs, 6), len(forms))
            for number, one in enumerate(forms):
                self.assertEqual(nth_form(row, signs, number), one)
                self.assertEqual(number_of_form(row, signs, one), number)
                self.assertEqual(first_way(row, signs, one), ways_by_form[one][0])
                self.assertEqual(how_many_twins(row, signs, one), len(ways_by_form[one]))


class WrittenOut(unittest.TestCase):
    def test_three_numbers(self):
        due = [
            sum_of("+1", "+2", "+3"), ("sum", (("+", 1), ("+", ("times", (2, 3))))),
            ("sum", (("+", ("times", (1, 2))), ("+", 3))), ("times", (1, 2, 3)),
            ("times", (1, sum_of("+2", "+3"))), ("times", (sum_of("+1", "+2"), 3)),
        ]
        self.assertEqual([nth_form([1, 2, 3], "+*", number) for number in range(6)], due)
        self.assertEqual([how_many_twins([1, 2, 3], "+*", one) for one in due], [2, 1, 1, 2, 1, 1])
        self.assertEqual(first_way([1, 2, 3], "+*", due[0]), right_way([1, 2, 3]))

    def test_signs_go_ahead_of_how_many_numbers(self):
        row = [1, 2, 3]
        self.assertEqual([nth_form(row, "+-*", number) for number in range(6)], [
            sum_of("+1", "+2", "+3"), sum_of("+1", "+2", "-3"), ("sum", (("+", 1), ("+", ("times", (2, 3))))),
            sum_of("+1", "-2", "+3"), sum_of("+1", "-2", "-3"), ("sum", (("+", 1), ("-", ("times", (2, 3))))),
        ])

    def test_with_minus_alone_the_second_term_has_it(self):
        row = [1, 2, 3, 4]
        self.assertEqual([nth_form(row, "-", number) for number in range(4)], [
            sum_of("+1", "-2", "+3", "+4"), sum_of("+1", "-2", "+3", "-4"),
            sum_of("+1", "-2", "-3", "+4"), sum_of("+1", "-2", "-3", "-4"),
        ])
        self.assertIs(refusal(number_of_form, row, "-", sum_of("+1", "+2", "-3", "-4")), NoForm)
        self.assertEqual(first_way(row, "-", sum_of("+1", "-2", "+3", "+4")), ("-", 1, ("-", ("-", 2, 3), 4)))
        self.assertEqual([how_many_twins(row, "-", nth_form(row, "-", number)) for number in range(4)], [1, 2, 1, 1])

    def test_a_lone_number(self):
        for signs in SIGNS_TO_PUT:
            self.assertEqual(how_many_forms(signs, 1), 1)
            self.assertEqual(nth_form([-6], signs, 0), -6)
            self.assertEqual(number_of_form([-6], signs, -6), 0)
            self.assertEqual(first_way([-6], signs, -6), -6)
            self.assertEqual(how_many_twins([-6], signs, -6), 1)

    def test_how_many(self):
        for many in range(1, 10):
            self.assertEqual(how_many_forms("+", many), 1)
            self.assertEqual(how_many_forms("*", many), 1)
            self.assertEqual(how_many_forms("-", many), 2 ** max(many - 2, 0))
            self.assertEqual(how_many_forms("+-", many), 2 ** (many - 1))
        # With "+" and "*" a form is a row put in brackets, at the top a sum or a product.
        self.assertEqual([how_many_forms("+*", many) for many in range(1, 10)],
                         [1, 2, 6, 22, 90, 394, 1806, 8558, 41586])


def last_sum(numbers):
    """The last sum: less the last number, a product of the last number but this and the last sum of all others."""
    if len(numbers) == 1:
        return numbers[0]
    if len(numbers) == 2:
        return ("-", numbers[0], numbers[1])
    return ("-", ("*", last_sum(numbers[:-2]), numbers[-2]), numbers[-1])


class LongRows(unittest.TestCase):
    def test_there_and_back(self):
        for many in range(6, 10):
            for row in (NINE[:many], TWELVE_FIGURES[:many], [0] * many):
                for signs in SIGNS_TO_PUT:
                    for number in some_numbers(how_many_forms(signs, many)):
                        one = nth_form(row, signs, number)
                        self.assertEqual(number_of_form(row, signs, one), number)

    def test_rising(self):
        for signs in SIGNS_TO_PUT:
            numbers = some_numbers(how_many_forms(signs, 9))
            forms = [nth_form(NINE, signs, number) for number in numbers]
            for one, other in zip(forms, forms[1:]):
                self.assertLess(compare_forms(one, other), 0)

    def test_first_and_last(self):
        self.assertEqual(nth_form(NINE, "+-*", 0), ("sum", tuple(("+", number) for number in NINE)))
        last = form(("*", last_sum(NINE[:8]), 9))
        self.assertEqual(nth_form(NINE, "+-*", how_many_forms("+-*", 9) - 1), last)

    def test_the_first_way_has_the_form(self):
        for row in (NINE, TWELVE_FIGURES):
            for signs in SIGNS_TO_PUT:
                for number in some_numbers(how_many_forms(signs, 9)):
                    one = nth_form(row, signs, number)
                    way = first_way(row, signs, one)
                    self.assertEqual(form(way), one)
                    self.assertEqual(numbers_of(way), row)
                    self.assertLessEqual(set(signs_of(way)), set(signs))

    def test_no_way_with_the_form_goes_ahead(self):
        for signs in SIGNS_TO_PUT:
            for number in some_numbers(how_many_ways(signs, 9)):
                one = form(nth_way(NINE, signs, number))
                self.assertLessEqual(number_of_way(first_way(NINE, signs, one), signs), number)
                self.assertGreaterEqual(how_many_twins(NINE, signs, one), 1)

    def test_twins_come_to_all_ways(self):
        for signs, many in (("+", 9), ("*", 9), ("-", 9), ("+-", 9), ("+*", 7), ("-*", 7), ("+-*", 6)):
            row = NINE[:many]
            forms = [nth_form(row, signs, number) for number in range(how_many_forms(signs, many))]
            self.assertEqual(len(set(forms)), len(forms))
            together = sum(how_many_twins(row, signs, one) for one in forms)
            self.assertEqual(together, how_many_ways(signs, many))

    def test_told_soon(self):
        # All 834177 forms can not be listed in this time.
        last = how_many_forms("+-*", 9) - 1
        start = time.perf_counter()
        one = nth_form(TWELVE_FIGURES, "+-*", last)
        for call in OF_A_FORM:
            call(TWELVE_FIGURES, "+-*", one)
        self.assertLess(time.perf_counter() - start, 2)


class NoForms(unittest.TestCase):
    def check(self, row, signs, thing):
        for call in OF_A_FORM:
            self.assertIs(refusal(call, row, signs, thing), NoForm, (row, signs))

    def test_of_another_row(self):
        one = form(("*", 1, ("+", 2, 3)))
        for row in ([1, 2, 4], [3, 2, 1], [1, 2], [1, 2, 3, 4], [1], [5], [-1, 2, 3]):
            self.check(row, "+-*", one)
        self.check([5], "+", 6)
        self.check([5, 5], "+", 5)
        self.check([5], "+", sum_of("+5", "+0"))

    def test_with_a_sign_that_is_not_to_put(self):
        for way in (("+", 1, 2), ("-", 1, 2), ("*", 1, 2)):
            for signs in SIGNS_TO_PUT:
                due = None if way[0] in signs else NoForm
                for call in OF_A_FORM:
                    self.assertIs(refusal(call, [1, 2], signs, form(way)), due)

    def test_signs_of_three_terms(self):
        for second in "+-":
            for third in "+-":
                for signs in SIGNS_TO_PUT:
                    one = sum_of("+1", second + "2", third + "3")
                    due = None if one in forms_in_order([1, 2, 3], signs) else NoForm
                    for call in OF_A_FORM:
                        self.assertIs(refusal(call, [1, 2, 3], signs, one), due)

    def test_one_kind_straight_within_itself(self):
        row = [1, 2, 3]
        for thing in (
            ("sum", (("+", 1), ("+", sum_of("+2", "+3")))), ("sum", (("+", sum_of("+1", "+2")), ("-", 3))),
            ("times", (1, ("times", (2, 3)))), ("times", (("times", (1, 2)), 3)),
        ):
            self.check(row, "+-*", thing)

    def test_one_part_alone_or_none(self):
        for thing in (("sum", (("+", 5),)), ("times", (5,)), ("sum", ()), ("times", ())):
            self.check([5], "+-*", thing)
        for thing in (("sum", (("+", ("times", (1, 2))),)), ("times", (sum_of("+1", "+2"),)),
                      ("times", (("sum", (("+", 1),)), 2)), ("sum", (("+", ("times", (1,))), ("+", 2)))):
            self.check([1, 2], "+-*", thing)

    def test_a_first_term_with_minus(self):
        self.check([1, 2], "+-*", sum_of("-1", "+2"))
        self.check([1, 2], "+-*", sum_of("-1", "-2"))
        self.check([1, 2, 3], "+-*", ("times", (1, sum_of("-2", "+3"))))

    def test_truths(self):
        for row, thing in (
            ([1], True), ([0], False), ([1, 2], ("sum", (("+", True), ("+", 2)))), ([0, 1], ("times", (False, 1))),
            ([2, 1], ("times", (2, True))), ([1, 1, 0], ("times", (1, ("sum", (("+", 1), ("-", False)))))),
        ):
            self.check(row, "+-*", thing)

    def test_other_kinds(self):
        for thing in (
            ["sum", (("+", 1), ("+", 2))], ("sum", [("+", 1), ("+", 2)]), ("sum", (["+", 1], ("+", 2))),
            ("sum", (("+", 1), ["+", 2])), ("times", [1, 2]), ["times", (1, 2)], ("times", 1, 2), ("sum", 1, 2),
            ("sum", (1, 2)), ("times", (("+", 1), ("+", 2))), ("times", (("*", 1), ("*", 2))), ("", (1, 2)),
            ("product", (1, 2)), ("Sum", (("+", 1), ("+", 2))), (b"sum", (("+", 1), ("+", 2))), ("sum",), ("times",),
            ("sum", (("+", 1), ("", 2))), ("sum", (("+", 1), ("+-", 2))), ("sum", (("", 1), ("+", 2))),
            ("sum", (("+", 1), ("*", 2))), ("sum", (("+", 1), (b"+", 2))), ("sum", (("+", 1), (["+"], 2))),
            ("sum", (("+", 1), (None, 2))), ("sum", (("+", 1, 1), ("+", 2))), ("sum", (("+", 1), ("+",))),
            ("sum", (("+", 1), ("+", [2]))), ("sum", (("+", 1), ("+", "2"))), ("sum", (("+", 1), ("+", None))),
            ("sum", (("+", 1), ("+", Prickly()))), ("sum", (("+", 1), (Prickly(), 2))), ("sum", (Prickly(), Prickly())),
            ("sum", Prickly()), (Prickly(), (1, 2)), ("times", (1, Prickly())), ("times", Prickly()),
            ("sum", {("+", 1): 1, ("+", 2): 2}), ("times", "12"), ("sum", "++"), ("sum", ("+1", "+2")),
            ("+", 1, 2), ("*", 1, 2), ("sumtimes", (1, 2)), (("sum",), (("+", 1), ("+", 2))), 1, 2, 3, 12,
            ("times", (1,) * 400), ("sum", (("+", 1),) * 300), ("times", (1, 2), ()),
            within(1, lambda part: ("times", (part, 2)), 24), within(1, lambda part: ("times", (part,)), 24),
            within(1, lambda part: ("sum", (("+", part), ("+", 2))), 16),
            within(1, lambda part: ("times", (("sum", (("+", 1), ("+", part))), 2)), 9),
        ):
            self.check([1, 2], "+-*", thing)

    def test_of_anything(self):
        for row in ([5], [1, 2], NINE):
            for thing in anything():
                self.check(row, "+-*", thing)


class Refused(unittest.TestCase):
    def test_how_many_numbers(self):
        for many in (0, -1, 10, 11, True, False, "1", None, [1], (1,), 10 ** 39, -10 ** 39):
            self.assertIs(refusal(how_many_forms, "+", many), NoNumber)
        for thing in anything():
            self.assertIs(refusal(how_many_forms, "+-*", thing), NoNumber)
        for thing in anything() + list(NO_SIGNS):
            self.assertIs(refusal(how_many_forms, thing, 3), NoSigns)
            self.assertIs(refusal(how_many_forms, thing, 0), NoSigns)
            self.assertIs(refusal(how_many_forms, thing, thing), NoSigns)

    def test_numbers_that_there_are_not(self):
        for signs in SIGNS_TO_PUT:
            for many in range(1, 10):
                forms = how_many_forms(signs, many)
                for number in (forms, forms + 1, -1, -forms, True, False, "0", None, [0], 10 ** 39, -10 ** 39):
                    self.assertIs(refusal(nth_form, NINE[:many], signs, number), NoNumber)
        for thing in anything():
            self.assertIs(refusal(nth_form, NINE, "+-*", thing), NoNumber)

    def test_no_row_then_no_signs(self):
        for call in (nth_form,) + OF_A_FORM:
            for thing in anything() + list(NO_ROWS):
                self.assertIs(refusal(call, thing, "+", 0), NoRow)
                self.assertIs(refusal(call, thing, thing, thing), NoRow)
            for thing in anything() + list(NO_SIGNS):
                self.assertIs(refusal(call, [5], thing, 0), NoSigns)
                self.assertIs(refusal(call, [1, 2], thing, thing), NoSigns)


if __name__ == "__main__":
    unittest.main()
