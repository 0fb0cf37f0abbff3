"""[16]: plain forms of ways, and twins."""

import unittest

from putsigns.errors import NoWay
from putsigns.forms import are_twins, form_of
from putsigns.worths import with_number
from samples import NINE, NO_WAYS, TWELVE_FIGURES, all_ways, anything, form, left_way, refusal, right_way, shapes, worth

# Unlike numbers so far apart that, but for twins, no two ways of four of them have one worth.
FAR_APART = [10 ** 3 + 7, 10 ** 9 + 3, 10 ** 27 + 1, 10 ** 81 + 9]


class Forms(unittest.TestCase):
    def test_of_a_lone_number(self):
        for number in (0, 7, -7, 10 ** 12 - 1, 10 ** 5000):
            self.assertEqual(form_of(number), number)

    def test_of_two_numbers(self):
        self.assertEqual(form_of(("+", 1, -2)), ("sum", (("+", 1), ("+", -2))))
        self.assertEqual(form_of(("-", -1, 2)), ("sum", (("+", -1), ("-", 2))))
        self.assertEqual(form_of(("*", -1, -2)), ("times", (-1, -2)))

    def test_sums_within_differences(self):
        self.assertEqual(form_of(("-", 1, ("+", 2, 3))), ("sum", (("+", 1), ("-", 2), ("-", 3))))
        self.assertEqual(form_of(("-", 1, ("-", 2, 3))), ("sum", (("+", 1), ("-", 2), ("+", 3))))
        self.assertEqual(form_of(("-", ("-", 1, 2), 3)), ("sum", (("+", 1), ("-", 2), ("-", 3))))
        self.assertEqual(form_of(("-", 1, ("-", 2, ("-", 3, 4)))),
                         ("sum", (("+", 1), ("-", 2), ("+", 3), ("-", 4))))
        self.assertEqual(form_of(("-", ("-", 1, ("+", 2, 3)), ("-", 4, 5))),
                         ("sum", (("+", 1), ("-", 2), ("-", 3), ("-", 4), ("+", 5))))

    def test_products_within_products(self):
        self.assertEqual(form_of(("*", 1, ("*", 2, 3))), ("times", (1, 2, 3)))
        self.assertEqual(form_of(("*", ("*", 1, 2), ("*", 3, -4))), ("times", (1, 2, 3, -4)))

    def test_sums_within_products_and_products_within_sums(self):
        self.assertEqual(form_of(("*", 1, ("+", 2, 3))), ("times", (1, ("sum", (("+", 2), ("+", 3))))))
        self.assertEqual(form_of(("-", 1, ("*", 2, 3))), ("sum", (("+", 1), ("-", ("times", (2, 3))))))
        self.assertEqual(
            form_of(("*", ("-", 1, ("-", 2, ("*", 3, 4))), ("*", 5, 6))),
            ("times", (("sum", (("+", 1), ("-", 2), ("+", ("times", (3, 4))))), 5, 6)))

    def test_of_nine_numbers(self):
        self.assertEqual(form_of(right_way(NINE)), ("sum", tuple(("+", number) for number in NINE)))
        self.assertEqual(form_of(left_way(NINE, "*")), ("times", tuple(NINE)))
        turning = tuple(("+-"[place % 2], number) for place, number in enumerate(NINE))
        self.assertEqual(form_of(right_way(NINE, "-")), ("sum", turning))

    def test_by_the_words(self):
        for many in range(1, 6):
            for way in all_ways(TWELVE_FIGURES[:many], "+-*"):
                self.assertEqual(form_of(way), form(way))
        for many in range(2, 10):
            for one, other, between in ("+-*", "-*+", "*+-", "-+-", "*-*", "---", "+++", "***"):
                for cut in range(1, many):
                    way = (between, left_way(NINE[:cut], one), right_way(NINE[cut:many], other))
                    self.assertEqual(form_of(way), form(way))

    def test_kinds_of_values(self):
        kind, terms = form_of(("-", ("*", 1, 2), 3))
        self.assertEqual((kind.__class__, terms.__class__), (str, tuple))
        for term in terms:
            self.assertIs(term.__class__, tuple)
        self.assertIs(form_of(("*", 1, 2))[1].__class__, tuple)


class Twins(unittest.TestCase):
    def test_needless_brackets_and_turned_signs(self):
        for one, other in (
            (("+", 1, ("+", 2, 3)), ("+", ("+", 1, 2), 3)), (("+", 1, ("-", 2, 3)), ("-", ("+", 1, 2), 3)),
            (("-", 1, ("+", 2, 3)), ("-", ("-", 1, 2), 3)), (("-", 1, ("-", 2, 3)), ("+", ("-", 1, 2), 3)),
            (("*", 1, ("*", 2, 3)), ("*", ("*", 1, 2), 3)), (left_way(NINE, "*"), right_way(NINE, "*")),
            (("-", 5, ("-", 1, ("-", 2, 3))), ("-", ("+", ("-", 5, 1), 2), 3)), (7, 7),
        ):
            self.assertIs(are_twins(one, other), True)
            self.assertIs(are_twins(other, one), True)
            self.assertEqual(worth(one), worth(other))

    def test_one_worth_but_no_twins(self):
        for one, other in (
            (("+", 2, 2), ("*", 2, 2)), (("+", 1, 2), ("+", 2, 1)), (("+", 1, 2), 3), (("+", 0, 5), ("-", 0, -5)),
            (("*", 2, ("+", 3, 4)), ("+", ("*", 2, 3), ("*", 2, 4))), (("*", 1, ("+", 2, 3)), ("+", ("*", 1, 2), 3)),
            (("-", 1, 0), ("+", 1, 0)), (0, ("-", 1, 1)), (("-", ("-", 1, 2), 3), ("-", ("-", 1, 3), 2)),
        ):
            self.assertEqual(worth(one), worth(other))
            self.assertIs(are_twins(one, other), False)
            self.assertIs(are_twins(other, one), False)

    def test_just_where_forms_are_the_same(self):
        ways = all_ways([2, 2, 1, 1], "+-*")
        forms = [form(way) for way in ways]
        for one, one_form in zip(ways[::3], forms[::3]):
            for other, other_form in zip(ways, forms):
                self.assertIs(are_twins(one, other), one_form == other_form)

    def test_each_its_own_twin(self):
        for many in range(1, 6):
            for way in all_ways([3, 0, -3, 3, 1][:many], "+-*"):
                self.assertIs(are_twins(way, way), True)

    def test_just_where_worths_are_one_whatever_the_numbers(self):
        # Two ways of four numbers far apart have one worth just where they have it of any numbers.
        ways = all_ways(FAR_APART, "+-*")
        by_worth, by_form = {}, {}
        for way in ways:
            by_worth.setdefault(worth(way), []).append(way)
            by_form.setdefault(form_of(way), []).append(way)
        self.assertEqual(sorted(map(sorted, map(lambda group: map(str, group), by_worth.values()))),
                         sorted(map(sorted, map(lambda group: map(str, group), by_form.values()))))

    def test_twins_have_one_worth_with_other_numbers(self):
        firsts = {}
        for way in shapes(5, "+-*"):
            first = firsts.setdefault(form_of(way), way)
            self.assertIs(are_twins(first, way), True)
            for place, number in ((0, -7), (2, 10 ** 12 - 1), (4, 0)):
                self.assertEqual(worth(with_number(first, place, number)), worth(with_number(way, place, number)))


class Refused(unittest.TestCase):
    def test_no_way(self):
        for thing in anything() + list(NO_WAYS) + [left_way(NINE + [10]), ("sum", (("+", 1), ("+", 2)))]:
            self.assertIs(refusal(form_of, thing), NoWay)
            for way in (5, ("+", 1, 2)):
                self.assertIs(refusal(are_twins, thing, way), NoWay)
                self.assertIs(refusal(are_twins, way, thing), NoWay)
            self.assertIs(refusal(are_twins, thing, thing), NoWay)


if __name__ == "__main__":
    unittest.main()
