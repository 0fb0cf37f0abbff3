"""[19], [20]: papers of bounds, what they say, and what they show."""

import unittest

from putsigns.bounds import bounds_of, first_greatest, first_least, greatest_of, least_of
from putsigns.errors import NoRow, NoSigns
from putsigns.papers import bounds_paper, bounds_say, greatest_shown, least_shown
from samples import JOIN, NINE, NO_ROWS, NO_SIGNS, Prickly, SHORT_ROWS, SIGNS_TO_PUT, TWELVE_FIGURES
from samples import all_stretches, anything, left_way, listed, refusal, small_rows

ROWS = SHORT_ROWS + (NINE, TWELVE_FIGURES, [0] * 9, [2, -1, 0, 3, -2, 1, 0, -3, 1])
GREAT = 10 ** 200


def worths_at(row, signs, paper, i, j):
    """The number of a stretch, or the worths that come of the ends of its cuts, by the words of [19]."""
    if i == j:
        return [row[i]]
    return [
        JOIN[sign](left, right)
        for cut in range(i, j)
        for sign in signs
        for left in paper[(i, cut)]
        for right in paper[(cut + 1, j)]
    ]


def is_let_by(row, signs, paper):
    """Whether a dict from all stretches to pairs of whole numbers is let by."""
    for (i, j), (low, high) in paper.items():
        if any(not low <= worth <= high for worth in worths_at(row, signs, paper, i, j)):
            return False
    return True


def widened(row, signs, wider):
    """The narrowest paper with some stretches wider by told widths, a dict from stretches to (below, above)."""
    paper = {}
    for length in range(len(row)):
        for i in range(len(row) - length):
            j = i + length
            worths = worths_at(row, signs, paper, i, j)
            below, above = wider.get((i, j), (0, 0))
            paper[(i, j)] = (min(worths) - below, max(worths) + above)
    return paper


class Told(unittest.TestCase):
    def test_it_is_the_dict_of_bounds(self):
        for row in ROWS:
            for signs in SIGNS_TO_PUT:
                paper = bounds_paper(row, signs)
                self.assertIs(paper.__class__, dict)
                self.assertEqual(paper, bounds_of(row, signs))
                self.assertEqual(sorted(paper), all_stretches(len(row)))
                self.assertTrue(is_let_by(row, signs, paper))

    def test_it_says_the_least_and_the_greatest(self):
        for row in ROWS:
            for signs in SIGNS_TO_PUT:
                said = bounds_say(row, signs, bounds_paper(row, signs))
                self.assertIs(said.__class__, tuple)
                self.assertEqual(said, (least_of(row, signs), greatest_of(row, signs)))

    def test_written_out(self):
        paper = {(0, 0): (1, 1), (1, 1): (-2, -2), (2, 2): (3, 3), (0, 1): (-2, -1), (1, 2): (-6, 1), (0, 2): (-6, 2)}
        self.assertEqual(bounds_paper([1, -2, 3], "+*"), paper)
        self.assertEqual(bounds_say([1, -2, 3], "+*", paper), (-6, 2))
        self.assertEqual(bounds_say([1, -2, 3], "+", paper), (-6, 2))
        self.assertIsNone(bounds_say([1, -2, 3], "-", paper))
        self.assertIsNone(bounds_say([1, -2, 4], "+*", paper))
        self.assertEqual(bounds_say([-6], "+", {(0, 0): (-6, -6)}), (-6, -6))
        self.assertEqual(bounds_say([-6], "+", {(0, 0): (-7, 9)}), (-7, 9))


class LetBy(unittest.TestCase):
    def test_a_little_narrower_is_not(self):
        for row in ROWS:
            for signs in SIGNS_TO_PUT:
                told = bounds_paper(row, signs)
                for stretch, (low, high) in told.items():
                    for ends in ((low + 1, high), (low, high - 1), (low + 1, high - 1), (high, low), (0, 0)):
                        due = told[(0, len(row) - 1)] if ends == (low, high) else None
                        if ends == (0, 0) and low == high == 0:
                            continue
                        self.assertEqual(bounds_say(row, signs, {**told, stretch: ends}), due)

    def test_wider_ones_that_keep_to_it_are(self):
        for row in ROWS[::4] + ROWS[-2:]:
            for signs in SIGNS_TO_PUT:
                for stretch in all_stretches(len(row)):
                    for width in ((1, 0), (0, 1), (5, 7), (GREAT, GREAT)):
                        paper = widened(row, signs, {stretch: width})
                        self.assertTrue(is_let_by(row, signs, paper))
                        low, high = paper[(0, len(row) - 1)]
                        self.assertEqual(bounds_say(row, signs, paper), (low, high))
                        self.assertLessEqual(low, least_of(row, signs))
                        self.assertLessEqual(greatest_of(row, signs), high)

    def test_as_the_words_say(self):
        for row in small_rows((-2, 0, 1), 3) + [[2, -1, 0, 3], [1, 1, 1, 1]]:
            for signs in SIGNS_TO_PUT:
                told = bounds_paper(row, signs)
                for stretch, (low, high) in told.items():
                    for below in (-1, 0, 1):
                        for above in (-1, 0, 1):
                            paper = {**told, stretch: (low - below, high + above)}
                            due = paper[(0, len(row) - 1)] if is_let_by(row, signs, paper) else None
                            self.assertEqual(bounds_say(row, signs, paper), due)

    def test_what_is_let_by_holds_of_all_ways(self):
        for row in small_rows((-2, 0, 3), 3):
            for signs in SIGNS_TO_PUT:
                worths = [number for way, number in listed(row, signs)]
                for stretch in all_stretches(3):
                    low, high = bounds_say(row, signs, widened(row, signs, {stretch: (1, 2)}))
                    self.assertLessEqual(low, min(worths))
                    self.assertLessEqual(max(worths), high)

    def test_a_wide_one_that_does_not_carry_on_is_not(self):
        # The numbers are wider than the rest allows for.
        told = bounds_paper([2, 3], "*")
        self.assertIsNone(bounds_say([2, 3], "*", {**told, (0, 0): (1, 2)}))
        self.assertIsNone(bounds_say([2, 3], "*", {**told, (0, 0): (-2, 2)}))
        self.assertEqual(bounds_say([2, 3], "*", {(0, 0): (-2, 2), (1, 1): (3, 3), (0, 1): (-6, 6)}), (-6, 6))
        # The least product comes of the one's low and the other's high.
        crossed = {(0, 0): (-2, 2), (1, 1): (3, 5), (0, 1): (-6, 10)}
        self.assertIsNone(bounds_say([2, 3], "*", crossed))
        self.assertEqual(bounds_say([2, 3], "*", {**crossed, (0, 1): (-10, 10)}), (-10, 10))


class Stretches(unittest.TestCase):
    def test_one_left_out(self):
        for row in ROWS:
            told = bounds_paper(row, "+-*")
            for stretch in told:
                self.assertIsNone(bounds_say(row, "+-*", {key: told[key] for key in told if key != stretch}))

    def test_a_strange_key_put_in(self):
        for row in ([5], [1, 2, 3], NINE):
            told = bounds_paper(row, "+-*")
            many = len(row)
            for key in ((0, many), (-1, 0), (1, 0), (many, many), 0, None, "", "01", (0,), (0, 0, 0), (0, (0,)), True,
                        b"", frozenset([0]), GREAT, ((0, 0), (0, 0)), ValueError, (GREAT, GREAT)):
                self.assertIsNone(bounds_say(row, "+-*", {**told, key: (0, 0)}))
                moved = {**told, key: told[(0, 0)]}
                del moved[(0, 0)]
                self.assertIsNone(bounds_say(row, "+-*", moved))

    def test_keys_equal_to_a_stretch(self):
        row = [2, -3, 4]
        told = bounds_paper(row, "+-*")
        for key in ((False, False), (0, False), (False, True), (0, True), (True, True), (True, 2), (False, 2)):
            paper = {**told}
            paper[key] = paper.pop((int(key[0]), int(key[1])))
            self.assertEqual(bounds_say(row, "+-*", paper), told[(0, 2)])

    def test_in_any_order(self):
        told = bounds_paper(NINE, "+-*")
        self.assertEqual(bounds_say(NINE, "+-*", dict(sorted(told.items(), reverse=True))), told[(0, 8)])

    def test_ends_of_other_kinds(self):
        for row in ([1], [1, 0], [1, 1, 1]):
            told = bounds_paper(row, "*")
            for stretch, (low, high) in told.items():
                for ends in ([low, high], (low,), (low, high, high), (low, str(high)), (None, high), low, None, "",
                             (bool(low), high), (low, bool(high)), (True, 1), (0, True), {low: high}, {low, high},
                             (Prickly(), high), (low, Prickly()), Prickly(), ((low,), high), (low, [high]), b"01"):
                    self.assertIsNone(bounds_say(row, "*", {**told, stretch: ends}))

    def test_of_anything(self):
        for row in ([5], [1, 2], NINE):
            told = bounds_paper(row, "+-*")
            for thing in anything() + [5, list(told.items()), tuple(told.items()), [told], (told,), list(told)]:
                self.assertIsNone(bounds_say(row, "+-*", thing))
                self.assertIsNone(bounds_say(row, "+-*", {**told, (0, 0): thing}))
                self.assertIsNone(bounds_say(row, "+-*", {(0, 0): thing}))
        self.assertIsNone(bounds_say([5], "+", {(place, place): (5, 5) for place in range(400)}))


class Shown(unittest.TestCase):
    def test_the_first_ways_are_shown(self):
        for row in ROWS:
            for signs in SIGNS_TO_PUT:
                paper = bounds_paper(row, signs)
                self.assertIs(greatest_shown(row, signs, first_greatest(row, signs), paper), True)
                self.assertIs(least_shown(row, signs, first_least(row, signs), paper), True)

    def test_just_those_with_the_greatest_or_the_least_worth(self):
        for row in ([7], [2, 2], [1, 2, 3], [0, -1, 0], [2, -1, 3, 1]):
            for signs in SIGNS_TO_PUT:
                paper = bounds_paper(row, signs)
                for way, number in listed(row, signs):
                    self.assertIs(greatest_shown(row, signs, way, paper), number == greatest_of(row, signs))
                    self.assertIs(least_shown(row, signs, way, paper), number == least_of(row, signs))

    def test_by_wider_papers(self):
        row, way = [2, 3, 4], ("*", 2, ("*", 3, 4))
        self.assertIs(greatest_shown(row, "+*", way, bounds_paper(row, "+*")), True)
        # The low may be as low as one likes; where the high is more than the worth, nothing is shown.
        wider = widened(row, "+*", {(0, 2): (100, 0)})
        self.assertIs(greatest_shown(row, "+*", way, wider), True)
        self.assertIs(least_shown(row, "+*", left_way(row), wider), False)
        self.assertIs(greatest_shown(row, "+*", way, widened(row, "+*", {(0, 2): (0, 1)})), False)
        self.assertIs(greatest_shown(row, "+*", way, widened(row, "+*", {(1, 2): (0, 1)})), False)

    def test_a_way_of_another_row(self):
        paper = bounds_paper([2, 3, 4], "*")
        for way in (("*", ("*", 4, 3), 2), ("*", 6, 4), 24, ("*", ("*", 2, 3), ("*", 4, 1)), ("*", ("*", -2, -3), 4)):
            self.assertIs(greatest_shown([2, 3, 4], "*", way, paper), False)
            self.assertIs(least_shown([2, 3, 4], "*", way, paper), False)
        self.assertIs(greatest_shown([2, 3, 4], "*", ("*", ("*", 2, 3), 4), paper), True)
        self.assertIs(greatest_shown([5], "+", 5, {(0, 0): (5, 5)}), True)
        self.assertIs(greatest_shown([5], "+", 6, {(0, 0): (6, 6)}), False)
        self.assertIs(greatest_shown([5], "+", 6, {(0, 0): (5, 6)}), False)

    def test_a_way_with_a_sign_that_is_not_to_put(self):
        for call in (greatest_shown, least_shown):
            self.assertIs(call([2, 2], "+", ("*", 2, 2), bounds_paper([2, 2], "+")), False)
            self.assertIs(call([2, 2], "*", ("+", 2, 2), bounds_paper([2, 2], "*")), False)
            self.assertIs(call([2, 0], "+", ("-", 2, 0), bounds_paper([2, 0], "+")), False)
            self.assertIs(call([2, 0], "-", ("-", 2, 0), bounds_paper([2, 0], "-")), True)

    def test_papers_that_are_not_let_by(self):
        row, signs = [1, 2, 3], "+-*"
        told = bounds_paper(row, signs)
        greatest, least = first_greatest(row, signs), first_least(row, signs)
        for stretch, (low, high) in told.items():
            for paper in ({**told, stretch: (low + 1, high)}, {**told, stretch: [low, high]}, {**told, None: (1, 1)},
                          {key: told[key] for key in told if key != stretch}):
                self.assertIs(greatest_shown(row, signs, greatest, paper), False)
                self.assertIs(least_shown(row, signs, least, paper), False)

    def test_of_anything(self):
        for row in ([1], [1, 2], NINE):
            told = bounds_paper(row, "+-*")
            for call, way in ((greatest_shown, first_greatest(row, "+-*")), (least_shown, first_least(row, "+-*"))):
                for thing in anything():
                    self.assertIs(call(row, "+-*", thing, told), False)
                    self.assertIs(call(row, "+-*", way, thing), False)
                    self.assertIs(call(row, "+-*", thing, thing), False)
        for call in (greatest_shown, least_shown):
            self.assertIs(call([1], "+", True, {(0, 0): (1, 1)}), False)
            self.assertIs(call([1, 0], "+", ("+", True, False), bounds_paper([1, 0], "+")), False)


class Refused(unittest.TestCase):
    def test_no_row_then_no_signs(self):
        for thing in anything() + list(NO_ROWS):
            self.assertIs(refusal(bounds_paper, thing, "+"), NoRow)
            self.assertIs(refusal(bounds_paper, thing, thing), NoRow)
            self.assertIs(refusal(bounds_say, thing, "+", {}), NoRow)
            self.assertIs(refusal(bounds_say, thing, thing, thing), NoRow)
            for call in (greatest_shown, least_shown):
                self.assertIs(refusal(call, thing, "+", 5, {}), NoRow)
                self.assertIs(refusal(call, thing, thing, thing, thing), NoRow)
        for thing in anything() + list(NO_SIGNS):
            self.assertIs(refusal(bounds_paper, [5], thing), NoSigns)
            self.assertIs(refusal(bounds_say, [5], thing, {(0, 0): (5, 5)}), NoSigns)
            self.assertIs(refusal(bounds_say, NINE, thing, thing), NoSigns)
            for call in (greatest_shown, least_shown):
                self.assertIs(refusal(call, [5], thing, 5, {(0, 0): (5, 5)}), NoSigns)
                self.assertIs(refusal(call, NINE, thing, thing, thing), NoSigns)


if __name__ == "__main__":
    unittest.main()
