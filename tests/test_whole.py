"""[3]: over the whole program, all that is told agrees with what is told elsewhere."""

import unittest

from putsigns.bounds import bounds_of, first_greatest, first_least, greatest_of, least_of
from putsigns.counted import first_way, how_many_forms, how_many_twins, nth_form, number_of_form
from putsigns.desk import Desk
from putsigns.every import can_be, how_many_with, how_many_worths, most_often, nearest_to, worths_of
from putsigns.flat import flat_way_to, flat_worths
from putsigns.forms import are_twins, form_of
from putsigns.held import bounds_held, first_held, greatest_held, how_many_held, least_held, may_be_parts, must_be_parts
from putsigns.ordered import how_many_ways, nth_way, number_of_way
from putsigns.papers import bounds_paper, bounds_say, greatest_shown, least_shown
from putsigns.rests import never_paper, rest_counts, rests_paper, rests_say, way_to_rest
from putsigns.texts import read_row, read_way, row_text, way_text
from putsigns.told import fewest_brackets, way_to
from putsigns.ways import brackets_in, numbers_of, signs_of, stretches_of, way_by
from putsigns.worths import hangs_by, part_worths, with_number, worth_of
from samples import SIGNS_TO_PUT, TWELVE_FIGURES

ROWS = ([7], [-3], [2, 3], [0, -4], [1, 1], [1, 2, 3], [0, -1, 0], [3, 3, -3], [4, -3, 2, -1], [0, 5, -1, 0],
        [2, 2, 2, 2], TWELVE_FIGURES[:4])


class Told:
    """All ways of a row with signs to put, by their numbers, and what is told of each."""

    def __init__(self, row, signs):
        self.row, self.signs = row, signs
        self.ways = [nth_way(row, signs, number) for number in range(how_many_ways(signs, len(row)))]
        self.worths = [worth_of(way) for way in self.ways]
        self.forms = [form_of(way) for way in self.ways]

    def first_with(self, number):
        return self.ways[self.worths.index(number)]


EVERY = [Told(row, signs) for row in ROWS for signs in SIGNS_TO_PUT]


class Agreeing(unittest.TestCase):
    def test_ways_are_made_of_what_is_told_of_them(self):
        for told in EVERY:
            for number, way in enumerate(told.ways):
                self.assertEqual(number_of_way(way, told.signs), number)
                self.assertEqual(numbers_of(way), told.row)
                self.assertEqual(way_by(told.row, signs_of(way), stretches_of(way)), way)
                self.assertEqual(read_way(way_text(way)), way)
                self.assertEqual(way_text(way).count("("), brackets_in(way))
                worths = part_worths(way)
                self.assertEqual(worths[(0, len(told.row) - 1)], worth_of(way))
                self.assertEqual([stretch for stretch in sorted(worths) if stretch[0] < stretch[1]], stretches_of(way))
                for place, there in enumerate(told.row):
                    times, plus = hangs_by(way, place)
                    self.assertEqual(times * there + plus, worth_of(way))
                    self.assertEqual(worth_of(with_number(way, place, there + 5)), worth_of(way) + 5 * times)
            self.assertEqual(read_row(row_text(told.row)), told.row)

    def test_greatest_and_least(self):
        for told in EVERY:
            row, signs = told.row, told.signs
            least, greatest = min(told.worths), max(told.worths)
            self.assertEqual((least_of(row, signs), greatest_of(row, signs)), (least, greatest))
            self.assertEqual(first_greatest(row, signs), told.first_with(greatest))
            self.assertEqual(first_least(row, signs), told.first_with(least))
            self.assertEqual(bounds_of(row, signs)[(0, len(row) - 1)], (least, greatest))
            self.assertEqual(bounds_say(row, signs, bounds_paper(row, signs)), (least, greatest))
            self.assertEqual(bounds_held(row, signs, ([], [])), (least, greatest))
            self.assertEqual(greatest_held(row, signs, ([], [])), told.first_with(greatest))
            self.assertEqual(least_held(row, signs, ([], [])), told.first_with(least))
            self.assertEqual(nearest_to(row, signs, greatest + 1), [greatest])
            self.assertEqual(nearest_to(row, signs, least - 1), [least])
            paper = bounds_paper(row, signs)
            for way, number in zip(told.ways, told.worths):
                self.assertIs(greatest_shown(row, signs, way, paper), number == greatest)
                self.assertIs(least_shown(row, signs, way, paper), number == least)

    def test_just_the_worths_that_some_way_has(self):
        for told in EVERY:
            row, signs = told.row, told.signs
            worths = sorted(set(told.worths))
            self.assertEqual(worths_of(row, signs), worths)
            self.assertEqual(how_many_worths(row, signs), len(worths))
            often, many = most_often(row, signs)
            self.assertEqual(how_many_with(row, signs, often), many)
            flat = flat_worths(row, signs)
            self.assertLessEqual(set(flat), set(worths))
            for number in worths + [worths[0] - 1, worths[-1] + 1]:
                having = [way for way, worth in zip(told.ways, told.worths) if worth == number]
                self.assertIs(can_be(row, signs, number), having != [])
                self.assertEqual(how_many_with(row, signs, number), len(having))
                self.assertLessEqual(len(having), many)
                fewest = min(map(brackets_in, having), default=None)
                self.assertEqual(fewest_brackets(row, signs, number), fewest)
                due = next((way for way in having if brackets_in(way) == fewest), None)
                self.assertEqual(way_to(row, signs, number), due)
                self.assertEqual(flat_way_to(row, signs, number), due if fewest == 0 else None)
                self.assertEqual(number in flat, fewest == 0)
                if having:
                    self.assertIsNone(never_paper(row, signs, number))

    def test_one_form_just_where_they_are_twins(self):
        for told in EVERY:
            row, signs = told.row, told.signs
            forms = [nth_form(row, signs, number) for number in range(how_many_forms(signs, len(row)))]
            self.assertEqual(len(set(forms)), len(forms))
            self.assertEqual(set(forms), set(told.forms))
            for number, form in enumerate(forms):
                self.assertEqual(number_of_form(row, signs, form), number)
                twins = [way for way, one in zip(told.ways, told.forms) if one == form]
                self.assertEqual(first_way(row, signs, form), twins[0])
                self.assertEqual(how_many_twins(row, signs, form), len(twins))
                self.assertEqual(len({worth_of(way) for way in twins}), 1)
                for way in twins:
                    self.assertIs(are_twins(way, twins[0]), True)
                    self.assertEqual([hangs_by(way, place) for place in range(len(row))],
                                     [hangs_by(twins[0], place) for place in range(len(row))])
            for one, other in zip(told.ways, told.ways[1:]):
                self.assertIs(are_twins(one, other), form_of(one) == form_of(other))

    def test_holds_and_parts(self):
        for told in EVERY:
            row, signs = told.row, told.signs
            self.assertEqual(how_many_held(row, signs, ([], [])), len(told.ways))
            for way in told.ways[::5]:
                holds = (stretches_of(way), [])
                self.assertEqual(how_many_held(row, signs, holds), len(signs) ** (len(row) - 1))
                self.assertEqual(stretches_of(first_held(row, signs, holds)), stretches_of(way))
                self.assertEqual(may_be_parts(row, signs, holds), stretches_of(way))
                self.assertEqual(must_be_parts(row, signs, holds), stretches_of(way))

    def test_rests(self):
        for told in EVERY:
            row, signs = told.row, told.signs
            for m in (2, 3, 9, 60):
                counts = rest_counts(row, signs, m)
                self.assertEqual(sum(counts), len(told.ways))
                left = [rest for rest in range(m) if counts[rest]]
                self.assertEqual(rests_say(row, signs, rests_paper(row, signs, m)), left)
                rests = [number % m for number in told.worths]
                for rest in range(m):
                    due = told.ways[rests.index(rest)] if rest in rests else None
                    self.assertEqual(way_to_rest(row, signs, m, rest), due)

    def test_the_desk(self):
        for told in EVERY:
            row, signs = told.row, told.signs
            desk = Desk()
            desk.answer("row " + row_text(row))
            desk.answer("signs " + signs)
            self.assertEqual(desk.answer("most"), f"{row_text([max(told.worths)])} {way_text(first_greatest(row, signs))}")
            self.assertEqual(desk.answer("forms"), str(how_many_forms(signs, len(row))))
            for way, number in list(zip(told.ways, told.worths))[::7]:
                self.assertEqual(desk.answer("worth " + way_text(way)), row_text([number]))
                if len(str(abs(number))) <= 40:
                    self.assertEqual(desk.answer("can " + row_text([number])), "yes")
                    self.assertEqual(read_way(desk.answer("get " + row_text([number]))), way_to(row, signs, number))
                form = form_of(way)
                line = f"form {number_of_form(row, signs, form)}"
                self.assertEqual(read_way(desk.answer(line)), first_way(row, signs, form))
                self.assertEqual(desk.answer(f"twins {way_text(way)} {desk.answer(line)}"), "yes")


if __name__ == "__main__":
    unittest.main()
