"""[21], [22]: holds, and the ways that keep them."""

import functools
import itertools
import time
import unittest

from putsigns.bounds import bounds_of, first_greatest, first_least, greatest_of, least_of
from putsigns.errors import NoHolds, NoRow, NoSigns
from putsigns.held import bounds_held, first_held, greatest_held, how_many_held, is_holds, least_held
from putsigns.held import may_be_parts, must_be_parts
from putsigns.ordered import how_many_ways, nth_way
from putsigns.ways import numbers_of, signs_of
from samples import NINE, NO_ROWS, NO_SIGNS, Prickly, SIGNS_TO_PUT, TWELVE_FIGURES
from samples import anything, filled, left_way, long_stretches, parts_in, refusal, right_way, shapes, small_rows, worth

CALLS = (how_many_held, first_held, bounds_held, greatest_held, least_held, may_be_parts, must_be_parts)
ROWS = ([7], [2, 3], [0, -4], [1, 2, 3], [0, -1, 0], [4, -3, 2, -1], [0, 5, -1, 0], [1, 1, 1, 1])
FIVES = (TWELVE_FIGURES[:5], [0, 1, 0, -1, 2], [2] * 5, [3, 0, -3, 0, 3])


@functools.cache
def kept_shapes(many, signs, held, barred):
    """The shapes of ways that keep holds, each with its stretches, in their order."""
    shaped = [(shape, parts_in(shape)) for shape in shapes(many, signs)]
    return [(shape, parts) for shape, parts in shaped if set(held) <= parts and not set(barred) & parts]


def some_holds(many):
    """Holds for so many numbers: none, one or two held, one or two barred, some of each, all, and alike ones."""
    stretches = long_stretches(many)
    holds = [([], [])]
    for one in stretches:
        holds += [([one], []), ([], [one]), ([one], [one]), ([one, one], []), ([], [one, one])]
    for one, other in itertools.combinations(stretches, 2):
        holds += [([one, other], []), ([], [other, one]), ([one], [other]), ([other], [one])]
    for one, other, third in list(itertools.combinations(stretches, 3))[::7]:
        holds += [([third, one], [other]), ([other], [one, third]), ([], [one, other, third]), ([third, one, other], [])]
    return holds + [(stretches, []), ([], stretches), ([], stretches[:-1]), ([(0, many - 1)] * 40, stretches[:0])]


class IsHolds(unittest.TestCase):
    def test_those_that_are(self):
        for many in range(2, 10):
            stretches = long_stretches(many)
            forty = (stretches * 40)[:40]
            for held, barred in (([], []), (stretches[:1], []), ([], stretches[-1:]), (stretches, stretches[::-1]),
                                 (forty, []), ([], forty), (forty, forty), ([(0, many - 1)] * 40, [(0, 1)] * 40)):
                self.assertIs(is_holds((held, barred), many), True)
        self.assertIs(is_holds(([], []), 1), True)
        self.assertIs(is_holds(([(0, 2), (1, 3)], [(0, 2)]), 4), True)

    def test_more_than_forty(self):
        for many in range(2, 10):
            more = [(0, 1)] * 41
            for thing in ((more, []), ([], more), (more, more), ([(0, 1)] * 300, [])):
                self.assertIs(is_holds(thing, many), False)

    def test_no_stretches(self):
        for many in range(1, 10):
            for pair in ((-1, 0), (-1, 1), (0, 0), (1, 1), (1, 0), (0, many), (many - 1, many), (many, many + 1),
                         (0, -1), (many - 1, 0), (0, 10 ** 39), (-10 ** 39, 1), (0, 9), (8, 9), (-2, -1)):
                self.assertIs(is_holds(([pair], []), many), False, (pair, many))
                self.assertIs(is_holds(([], [pair]), many), False, (pair, many))
                if many > 1:
                    self.assertIs(is_holds(([(0, 1), pair], []), many), False)
                    self.assertIs(is_holds(([], [pair, (0, 1)]), many), False)

    def test_other_kinds(self):
        for pair in ((0, True), (False, 1), (False, True), [0, 1], (0,), (0, 1, 2), "01", "0-1", 1, None, ("0", "1"),
                     (0, "1"), (0, None), (0, [1]), {0: 1}, {0, 1}, Prickly(), (0, Prickly()), (Prickly(), 1), b"01"):
            self.assertIs(is_holds(([pair], []), 9), False)
            self.assertIs(is_holds(([], [pair]), 9), False)
        stretches = [(0, 1)]
        for thing in (
            [stretches, stretches], (stretches,), (stretches, stretches, stretches), (tuple(stretches), []),
            ([], tuple(stretches)), ((), ()), ([], ()), (None, []), ([], None), {0: stretches, 1: []}, ({}, {}),
            ({(0, 1): 1}, []), ("", ""), ([], ""), (set(), set()), stretches, (0, 1), (Prickly(), []), ([], Prickly()),
            ((0, 1), (0, 1)), "/", "0-1 / 1-2",
        ):
            self.assertIs(is_holds(thing, 9), False)

    def test_of_anything_for_both(self):
        for thing in anything():
            self.assertIs(is_holds(thing, 5), False)
            self.assertIs(is_holds(([], []), thing), False)
            self.assertIs(is_holds(thing, thing), False)
            # With one number in all there is no stretch of two.
            self.assertIs(is_holds(([thing], []), 1), False)
            self.assertIs(is_holds(([], [thing]), 1), False)
        for many in (0, -1, 10, 11, True, False, "5", None, [5], (5,), 10 ** 39, -10 ** 39):
            self.assertIs(is_holds(([], []), many), False)


class AgainstAllWays(unittest.TestCase):
    def check(self, row, signs, holds):
        held, barred = holds
        kept = kept_shapes(len(row), signs, tuple(held), tuple(barred))
        ways = [filled(shape, row) for shape, parts in kept]
        said = (row, signs, holds)
        self.assertEqual(how_many_held(row, signs, holds), len(ways), said)
        everywhere = [parts for shape, parts in kept]
        self.assertEqual(may_be_parts(row, signs, holds), sorted(set().union(*everywhere)), said)
        must = sorted(set.intersection(*everywhere)) if kept else []
        self.assertEqual(must_be_parts(row, signs, holds), must, said)
        if not ways:
            for call in (first_held, bounds_held, greatest_held, least_held):
                self.assertIsNone(call(row, signs, holds), said)
            return
        worths = [worth(way) for way in ways]
        self.assertEqual(first_held(row, signs, holds), ways[0], said)
        self.assertEqual(bounds_held(row, signs, holds), (min(worths), max(worths)), said)
        self.assertEqual(greatest_held(row, signs, holds), ways[worths.index(max(worths))], said)
        self.assertEqual(least_held(row, signs, holds), ways[worths.index(min(worths))], said)

    def test_rows_of_one_to_four_numbers(self):
        for row in ROWS:
            for signs in SIGNS_TO_PUT:
                for holds in some_holds(len(row)):
                    if len(row) > 1 or holds == ([], []):
                        self.check(row, signs, holds)

    def test_rows_of_five_numbers(self):
        for row, start in zip(FIVES, range(4)):
            for signs in SIGNS_TO_PUT:
                for holds in some_holds(5)[start::4]:
                    self.check(row, signs, holds)

    def test_rows_with_zeros(self):
        # Products of 0 are where the first of several is least easily found.
        for row in small_rows((0, 1, -2), 4)[::5]:
            for holds in some_holds(4)[::3]:
                self.check(row, "-*", holds)
                self.check(row, "+-*", holds)


class WrittenOut(unittest.TestCase):
    def test_a_lone_number(self):
        for signs in SIGNS_TO_PUT:
            self.assertEqual([call([-6], signs, ([], [])) for call in CALLS], [1, -6, (-6, -6), -6, -6, [], []])

    def test_two_numbers(self):
        self.assertEqual([call([2, 3], "+*", ([(0, 1)], [])) for call in CALLS],
                         [2, ("+", 2, 3), (5, 6), ("*", 2, 3), ("+", 2, 3), [(0, 1)], [(0, 1)]])
        self.assertEqual([call([2, 3], "+*", ([], [(0, 1)])) for call in CALLS], [0, None, None, None, None, [], []])

    def test_three_numbers(self):
        self.assertEqual([call([2, 3, 4], "+*", ([(0, 1)], [])) for call in CALLS], [
            4, ("+", ("+", 2, 3), 4), (9, 24), ("*", ("*", 2, 3), 4), ("+", ("+", 2, 3), 4),
            [(0, 1), (0, 2)], [(0, 1), (0, 2)],
        ])
        self.assertEqual(may_be_parts([2, 3, 4], "+", ([], [])), [(0, 1), (0, 2), (1, 2)])
        self.assertEqual(must_be_parts([2, 3, 4], "+", ([], [])), [(0, 2)])
        self.assertEqual(must_be_parts([2, 3, 4], "+", ([], [(0, 1)])), [(0, 2), (1, 2)])

    def test_that_can_not_be_kept_at_once(self):
        for holds in (([(0, 1), (1, 2)], []), ([(0, 1)], [(0, 1)]), ([], [(0, 3)]), ([], [(0, 1), (1, 2), (2, 3)]),
                      ([(0, 2), (1, 3)], []), ([(0, 2)], [(0, 1), (1, 2)]), ([(1, 2)], [(0, 2), (1, 3)])):
            self.assertEqual([call([1, 2, 3, 4], "+-*", holds) for call in CALLS],
                             [0, None, None, None, None, [], []])

    def test_kinds_of_values(self):
        told = [call([1, 2, 3], "+-*", ([], [])) for call in CALLS]
        self.assertEqual([value.__class__ for value in told], [int, tuple, tuple, tuple, tuple, list, list])
        for stretch in told[5] + told[6]:
            self.assertIs(stretch.__class__, tuple)


class NineNumbers(unittest.TestCase):
    def test_without_holds(self):
        for row in (NINE, TWELVE_FIGURES, [0] * 9):
            for signs in SIGNS_TO_PUT:
                holds = ([], [])
                self.assertEqual(how_many_held(row, signs, holds), how_many_ways(signs, 9))
                self.assertEqual(first_held(row, signs, holds), nth_way(row, signs, 0))
                self.assertEqual(bounds_held(row, signs, holds), (least_of(row, signs), greatest_of(row, signs)))
                self.assertEqual(greatest_held(row, signs, holds), first_greatest(row, signs))
                self.assertEqual(least_held(row, signs, holds), first_least(row, signs))
                self.assertEqual(may_be_parts(row, signs, holds), long_stretches(9))
                self.assertEqual(must_be_parts(row, signs, holds), [(0, 8)])

    def test_all_brackets_held(self):
        for row in (NINE, TWELVE_FIGURES):
            for join in (left_way, right_way):
                parts = sorted(parts_in(join(row)))
                for signs in SIGNS_TO_PUT:
                    holds = (parts, [])
                    self.assertEqual(how_many_held(row, signs, holds), len(signs) ** 8)
                    self.assertEqual(first_held(row, signs, holds), join(row, signs[0]))
                    self.assertEqual(may_be_parts(row, signs, holds), parts)
                    self.assertEqual(must_be_parts(row, signs, holds), parts)

    def test_against_all_ways_with_one_sign(self):
        for row in (NINE, [1, -2, 0, -4, 5, 0, 7, -8, 9]):
            for signs in "-*":
                for holds in (([(0, 3), (5, 6)], [(2, 8), (0, 1)]), ([], [(0, 7), (1, 8)]), ([(1, 7)], [(2, 3)] * 40)):
                    AgainstAllWays.check(self, row, signs, holds)

    def test_one_held_stretch(self):
        # The held numbers are as one: so their ways and those of a row with one number for them are multiplied.
        for first, last in long_stretches(9):
            many = last - first + 1
            for signs in ("+", "+-*"):
                due = how_many_ways(signs, many) * how_many_ways(signs, 9 - many + 1)
                self.assertEqual(how_many_held(NINE, signs, ([(first, last)], [])), due)
                self.assertEqual(how_many_held(NINE, signs, ([], [(first, last)])), how_many_ways(signs, 9) - due)

    def test_told_ways_keep_the_holds(self):
        holds = ([(0, 3), (5, 6)], [(2, 8), (0, 1), (4, 8)])
        for row in (NINE, TWELVE_FIGURES):
            for signs in SIGNS_TO_PUT:
                least, greatest = bounds_held(row, signs, holds)
                for way, due in ((greatest_held(row, signs, holds), greatest), (least_held(row, signs, holds), least),
                                 (first_held(row, signs, holds), None)):
                    self.assertEqual(numbers_of(way), row)
                    self.assertLessEqual(set(signs_of(way)), set(signs))
                    self.assertLessEqual(set(holds[0]), parts_in(way))
                    self.assertFalse(set(holds[1]) & parts_in(way))
                    self.assertIn(due, (None, worth(way)))
                self.assertLessEqual(bounds_of(row, signs)[(0, 8)][0], least)
                self.assertLessEqual(greatest, bounds_of(row, signs)[(0, 8)][1])

    def test_told_soon(self):
        start = time.perf_counter()
        for call in CALLS:
            call(TWELVE_FIGURES, "+-*", ([(1, 4)] * 40, [(2, 3)] * 40))
        self.assertLess(time.perf_counter() - start, 5)


class Refused(unittest.TestCase):
    def test_no_row_then_no_signs(self):
        for call in CALLS:
            for thing in anything() + list(NO_ROWS):
                self.assertIs(refusal(call, thing, "+", ([], [])), NoRow)
                self.assertIs(refusal(call, thing, thing, thing), NoRow)
            for thing in anything() + list(NO_SIGNS):
                self.assertIs(refusal(call, [5], thing, ([], [])), NoSigns)
                self.assertIs(refusal(call, NINE, thing, thing), NoSigns)

    def test_no_holds(self):
        for call in CALLS:
            for row in ([5], [1, 2], NINE):
                for thing in anything() + [5, "/", ((), ()), [[], []], ([],), ([(0, len(row))], []), ([], [(0, 0)]),
                                           ([(0, True)], []), ([(0, 1)] * 41, []), ([], [[0, 1]])]:
                    self.assertIs(refusal(call, row, "+-*", thing), NoHolds)
            self.assertIs(refusal(call, [1, 2, 3], "+", ([(1, 3)], [])), NoHolds)
            self.assertIs(refusal(call, [1, 2, 3, 4], "+", ([(1, 3)], [])), None)


if __name__ == "__main__":
    unittest.main()
