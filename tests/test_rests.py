"""[23], [24]: rests of worths, and papers of rests."""

import collections
import math
import time
import unittest

from putsigns.errors import NoNumber, NoRow, NoSigns
from putsigns.every import can_be, worths_of
from putsigns.ordered import how_many_ways, nth_way, number_of_way
from putsigns.rests import never_paper, rest_counts, rests_paper, rests_say, way_to_rest
from putsigns.ways import numbers_of, signs_of
from samples import JOIN, NINE, NO_ROWS, NO_SIGNS, Prickly, SHORT_ROWS, SIGNS_TO_PUT, TWELVE_FIGURES
from samples import all_stretches, anything, listed, refusal, small_rows, worth

ROWS = SHORT_ROWS[::3] + (TWELVE_FIGURES[:5], [2, 4, 6, 8, 10], [7, -14, 21, 28, -35], [60, 120, -60])
NINES = (NINE, TWELVE_FIGURES, [0] * 9, [2, 4, 6, 8, 10, 12, 14, 16, 18], [1, -1, 1, -1, 2, -2, 3, -3, 0])
SOME_M = (2, 3, 4, 7, 10, 16, 59, 60)
NO_M = (1, 0, -1, -2, 61, 62, 100, 10 ** 39, -10 ** 39, True, False, "2", None, [2], (2,))


def is_let_by(row, signs, m, lists):
    """Whether lists of rests by m for all stretches are let by, by the words of [24]."""
    for (i, j), rests in lists.items():
        if i == j and row[i] % m not in rests:
            return False
        for cut in range(i, j):
            for sign in signs:
                for left in lists[(i, cut)]:
                    for right in lists[(cut + 1, j)]:
                        if JOIN[sign](left, right) % m not in rests:
                            return False
    return True


class Rests(unittest.TestCase):
    def test_counts_against_all_ways(self):
        for row in ROWS:
            for signs in SIGNS_TO_PUT:
                worths = [number for way, number in listed(row, signs)]
                for m in range(2, 61):
                    many = collections.Counter(number % m for number in worths)
                    self.assertEqual(rest_counts(row, signs, m), [many[rest] for rest in range(m)], (row, signs, m))

    def test_first_ways_against_all_ways(self):
        for row in ROWS:
            for signs in SIGNS_TO_PUT:
                ways = listed(row, signs)
                for m in SOME_M:
                    firsts = {}
                    for way, number in ways:
                        firsts.setdefault(number % m, way)
                    for rest in range(m):
                        self.assertEqual(way_to_rest(row, signs, m, rest), firsts.get(rest), (row, signs, m, rest))

    def test_first_ways_of_all_m(self):
        row = [3, -1, 4, 1]
        ways = listed(row, "+-*")
        for m in range(2, 61):
            firsts = {}
            for way, number in ways:
                firsts.setdefault(number % m, way)
            self.assertEqual([way_to_rest(row, "+-*", m, rest) for rest in range(m)],
                             [firsts.get(rest) for rest in range(m)])

    def test_written_out(self):
        # 1+2 1-2 1*2 are 3, -1, 2
        self.assertEqual(rest_counts([1, 2], "+-*", 2), [1, 2])
        self.assertEqual(rest_counts([1, 2], "+-*", 5), [0, 0, 1, 1, 1])
        self.assertEqual(way_to_rest([1, 2], "+-*", 5, 4), ("-", 1, 2))
        self.assertEqual(way_to_rest([1, 2], "+-*", 2, 1), ("+", 1, 2))
        self.assertIsNone(way_to_rest([1, 2], "+-*", 5, 0))
        self.assertEqual(rest_counts([-7], "+", 3), [0, 0, 1])
        self.assertEqual(way_to_rest([-7], "+", 3, 2), -7)
        self.assertIsNone(way_to_rest([-7], "+", 3, 1))

    def test_counts_of_nine_numbers_come_to_all_ways(self):
        for row in NINES:
            for signs in SIGNS_TO_PUT:
                for m in range(2, 61):
                    counts = rest_counts(row, signs, m)
                    self.assertEqual(len(counts), m)
                    self.assertEqual(sum(counts), how_many_ways(signs, 9))

    def test_counts_of_nine_numbers_with_one_sign(self):
        for row in NINES:
            for signs in "+-*":
                for m in (2, 9, 60):
                    many = collections.Counter(number % m for way, number in listed(row, signs))
                    self.assertEqual(rest_counts(row, signs, m), [many[rest] for rest in range(m)])

    def test_ways_of_nine_numbers(self):
        for row in NINES:
            for signs in SIGNS_TO_PUT:
                for m in SOME_M:
                    counts = rest_counts(row, signs, m)
                    for rest in range(m):
                        way = way_to_rest(row, signs, m, rest)
                        self.assertEqual(way is None, counts[rest] == 0)
                        if way is not None:
                            self.assertEqual(worth(way) % m, rest)
                            self.assertEqual(numbers_of(way), row)
                            self.assertLessEqual(set(signs_of(way)), set(signs))

    def test_no_way_of_nine_numbers_goes_ahead(self):
        for row in NINES[:2]:
            for m in SOME_M:
                firsts = [way_to_rest(row, "+-*", m, rest) for rest in range(m)]
                for number in range(0, 2000):
                    rest = worth(nth_way(row, "+-*", number)) % m
                    self.assertLessEqual(number_of_way(firsts[rest], "+-*"), number)

    def test_kinds_of_values(self):
        self.assertIs(rest_counts([1, 2], "+", 2).__class__, list)
        self.assertIs(way_to_rest([1, 2], "+", 2, 1).__class__, tuple)


class Told(unittest.TestCase):
    def test_the_fewest_rests(self):
        for row in ROWS:
            for signs in SIGNS_TO_PUT:
                # The rests of a stretch are those that its ways leave, so no paper that is let by has fewer.
                worths = {(i, j): [number for way, number in listed(row[i:j + 1], signs)]
                          for i, j in all_stretches(len(row))}
                for m in SOME_M:
                    told = rests_paper(row, signs, m)
                    self.assertEqual(told, (m, {stretch: sorted({number % m for number in worths[stretch]})
                                                for stretch in worths}))
                    self.assertTrue(is_let_by(row, signs, *told))
                    self.assertEqual(rests_say(row, signs, told), told[1][(0, len(row) - 1)])

    def test_kinds_of_values(self):
        for row in ([5], [1, 2, 3], NINE, [0] * 9):
            told = rests_paper(row, "+-*", 7)
            self.assertEqual((told.__class__, told[0].__class__, told[1].__class__), (tuple, int, dict))
            self.assertEqual(sorted(told[1]), all_stretches(len(row)))
            for stretch, rests in told[1].items():
                self.assertEqual((stretch.__class__, rests.__class__), (tuple, list))
            self.assertIs(rests_say(row, "+-*", told).__class__, list)

    def test_no_two_stretches_have_one_list(self):
        for row in ([0] * 9, NINE, [1, 1]):
            for m in SOME_M:
                lists = rests_paper(row, "+-*", m)[1]
                self.assertEqual(len({id(rests) for rests in lists.values()}), len(lists))
            lists = never_paper([0] * 6, "+-*", 1)[1]
            self.assertEqual(len({id(rests) for rests in lists.values()}), len(lists))

    def test_what_is_said_is_the_askers_own(self):
        paper = rests_paper([1, 2, 3], "+-*", 5)
        said = rests_say([1, 2, 3], "+-*", paper)
        due = list(said)
        said.append(99)
        self.assertEqual(paper[1][(0, 2)], due)
        paper[1][(0, 2)].append(98)
        self.assertEqual(said, due + [99])
        self.assertEqual(rests_say([1, 2, 3], "+-*", rests_paper([1, 2, 3], "+-*", 5)), due)

    def test_nine_numbers(self):
        for row in NINES:
            for signs in SIGNS_TO_PUT:
                for m in SOME_M:
                    told = rests_paper(row, signs, m)
                    self.assertEqual(rests_say(row, signs, told), told[1][(0, 8)])
                    counts = rest_counts(row, signs, m)
                    self.assertEqual(told[1][(0, 8)], [rest for rest in range(m) if counts[rest]])

    def test_written_out(self):
        lists = {(0, 0): [1], (1, 1): [2], (0, 1): [2, 3, 4]}
        self.assertEqual(rests_paper([1, 2], "+-*", 5), (5, lists))
        self.assertEqual(rests_paper([6, -3], "+-*", 5), (5, {(0, 0): [1], (1, 1): [2], (0, 1): [2, 3, 4]}))
        self.assertEqual(rests_say([6, -3], "+-*", (5, lists)), [2, 3, 4])
        self.assertEqual(rests_say([6, -3], "-", (5, lists)), [2, 3, 4])
        self.assertIsNone(rests_say([1, 3], "+-*", (5, lists)))


class LetBy(unittest.TestCase):
    def judge(self, row, signs, m, lists):
        due = lists[(0, len(row) - 1)] if is_let_by(row, signs, m, lists) else None
        self.assertEqual(rests_say(row, signs, (m, lists)), due, (row, signs, m, lists))
        return due

    def test_a_rest_left_out(self):
        for row in ROWS:
            for signs in SIGNS_TO_PUT[::2]:
                m, lists = rests_paper(row, signs, 7)
                for stretch, rests in lists.items():
                    for rest in rests:
                        fewer = {**lists, stretch: [one for one in rests if one != rest]}
                        self.assertIsNone(rests_say(row, signs, (m, fewer)))
                    self.assertIsNone(rests_say(row, signs, (m, {**lists, stretch: []})))

    def test_a_rest_put_in(self):
        let_by = 0
        for row in ([5], [2, 3], [1, 2, 3], [2, 4, 6], [0, 0, 0, 0], [3, -3, 6, 9]):
            for signs in SIGNS_TO_PUT:
                for m in (2, 3, 5, 12):
                    lists = rests_paper(row, signs, m)[1]
                    for stretch, rests in lists.items():
                        for rest in range(m):
                            more = {**lists, stretch: sorted(set(rests) | {rest})}
                            let_by += self.judge(row, signs, m, more) is not None
        self.assertGreater(let_by, 0)

    def test_all_rests_everywhere(self):
        for row in NINES:
            for m in SOME_M:
                lists = {stretch: list(range(m)) for stretch in all_stretches(9)}
                self.assertEqual(rests_say(row, "+-*", (m, lists)), list(range(m)))

    def test_what_is_let_by_holds_of_all_ways(self):
        for row in small_rows((-2, 0, 3), 3)[::2]:
            for signs in SIGNS_TO_PUT:
                worths = [number for way, number in listed(row, signs)]
                for stretch in all_stretches(3):
                    for m in (2, 3, 4):
                        lists = dict(rests_paper(row, signs, m)[1])
                        lists[(0, 2)] = list(range(m))
                        lists[stretch] = list(range(m))
                        said = rests_say(row, signs, (m, lists))
                        if said is not None:
                            self.assertLessEqual({number % m for number in worths}, set(said))

    def test_lists_that_are_none(self):
        for row in ([1], [1, 1], [1, 0, 1]):
            lists = rests_paper(row, "+-*", 3)[1]
            for stretch, rests in lists.items():
                for thing in (rests + rests[-1:], rests[:1] + rests, rests[::-1] + [0], tuple(rests), None, "", {}, 1,
                              rests + [3], [-1] + rests, rests + [True], [False] + rests, [bool(one) for one in rests],
                              rests + ["2"], rests + [None], {one: one for one in rests}, set(rests), [rests],
                              [Prickly()], Prickly(), rests + [Prickly()], b"\x01", "1", range(3), [2, 1, 0], [0, 0, 1, 2],
                              [0, 1, 2, 2], [0, 2, 1], [0, 1, 2, 3], [10 ** 39]):
                    self.assertIsNone(rests_say(row, "+-*", (3, {**lists, stretch: thing})), (row, stretch))
                self.assertIsNotNone(rests_say(row, "+-*", (3, lists)))

    def test_stretches(self):
        for row in ([5], [1, 2, 3], NINE):
            m, lists = rests_paper(row, "+-*", 4)
            many = len(row)
            for stretch in lists:
                self.assertIsNone(rests_say(row, "+-*", (m, {key: lists[key] for key in lists if key != stretch})))
            for key in ((0, many), (-1, 0), (1, 0), (many, many), 0, None, "", (0,), (0, 0, 0), True, b"", 10 ** 60):
                self.assertIsNone(rests_say(row, "+-*", (m, {**lists, key: [0]})))
                moved = {**lists, key: lists[(0, 0)]}
                del moved[(0, 0)]
                self.assertIsNone(rests_say(row, "+-*", (m, moved)))

    def test_keys_equal_to_a_stretch(self):
        row = [2, -3, 4]
        m, lists = rests_paper(row, "+-*", 11)
        for key in ((False, False), (0, False), (False, True), (0, True), (True, True), (True, 2), (False, 2)):
            other = dict(lists)
            other[key] = other.pop((int(key[0]), int(key[1])))
            self.assertEqual(rests_say(row, "+-*", (m, other)), lists[(0, 2)])

    def test_another_m(self):
        row = [2, 4, 6]
        for m in (2, 4, 6, 12, 60):
            lists = rests_paper(row, "+-*", m)[1]
            for other in range(2, 61):
                fits = all(rest < other for rests in lists.values() for rest in rests)
                if fits:
                    self.judge(row, "+-*", other, lists)
                else:
                    self.assertIsNone(rests_say(row, "+-*", (other, lists)))
            for other in NO_M + (m + 0j, str(m), [m], None, Prickly()):
                self.assertIsNone(rests_say(row, "+-*", (other, lists)))
        everything = {stretch: [0] for stretch in all_stretches(3)}
        self.assertEqual(rests_say([0, 0, 0], "+-*", (2, everything)), [0])
        self.assertIsNone(rests_say([0, 0, 0], "+-*", (1, everything)))
        self.assertIsNone(rests_say([0, 0, 0], "+-*", (61, everything)))
        self.assertIsNone(rests_say([0, 0, 0], "+-*", (True, everything)))

    def test_of_anything(self):
        for row in ([5], [1, 2], NINE):
            m, lists = rests_paper(row, "+-*", 3)
            self.assertIsNone(rests_say(row, "+-*", lists))
            for thing in anything() + [5, [m, lists], (m,), (m, lists, lists), (lists, m), {m: lists},
                                       (m, list(lists.items())), (m, tuple(lists)), (m, [lists])]:
                self.assertIsNone(rests_say(row, "+-*", thing))
                self.assertIsNone(rests_say(row, "+-*", (m, thing)))
                self.assertIsNone(rests_say(row, "+-*", (thing, lists)))
                self.assertIsNone(rests_say(row, "+-*", (m, {**lists, (0, 0): thing})))


class Never(unittest.TestCase):
    def check(self, row, signs, number, worths):
        least = next((m for m in range(2, 61) if number % m not in {one % m for one in worths}), None)
        told = never_paper(row, signs, number)
        self.assertEqual(told, None if least is None else rests_paper(row, signs, least), (row, signs, number))
        if told is not None:
            self.assertNotIn(number % told[0], rests_say(row, signs, told))
            self.assertNotIn(number, worths)

    def test_against_all_ways(self):
        for row in ROWS[::2]:
            for signs in SIGNS_TO_PUT:
                worths = [number for way, number in listed(row, signs)]
                for number in range(-9, 40, 4):
                    self.check(row, signs, number, worths)
                self.check(row, signs, 10 ** 39 + 12345, worths)

    def test_none_of_worths_that_can_be_had(self):
        for row in (TWELVE_FIGURES[:6], NINE[:6], [0, 1, -2, 3, 0, 5], [7], [2, 2]):
            for signs in ("*", "+-", "+-*"):
                worths = worths_of(row, signs)
                for number in worths[::len(worths) // 9 + 1]:
                    self.assertIsNone(never_paper(row, signs, number))

    def test_none_though_it_can_not_be_had(self):
        self.assertFalse(can_be(NINE[:6], "+-*", 10 ** 39))
        self.assertIsNone(never_paper(NINE[:6], "+-*", 10 ** 39))

    def test_written_out(self):
        self.assertEqual(never_paper([2, 4], "+*", 7), (2, {(0, 0): [0], (1, 1): [0], (0, 1): [0]}))
        # 2+4 is 6 and 2*4 is 8: by 3 they leave 0 and 2.
        self.assertEqual(never_paper([2, 4], "+*", 10), (3, {(0, 0): [2], (1, 1): [1], (0, 1): [0, 2]}))
        self.assertEqual(never_paper([5], "+", 5), None)
        self.assertEqual(never_paper([5], "+", 5 + 59 * 60 * 49 * 32 * 27 * 25 * 11 * 13 * 17 * 19), (23, {(0, 0): [5]}))

    def test_the_last_m(self):
        # Each m below sixty divides one of the three: the first where 4 does not divide it, the second where 3 does
        # not, else 5 does not. Sixty divides none, nor the fourth worth, the first and the third less the second.
        every = math.lcm(*range(1, 60))
        one, two, three = every // 16, every // 27, every // 25
        row = [(one + three) // 2, (two - three) // 2, (one - two) // 2]
        self.assertEqual(worths_of(row, "+-"), sorted([one, two, three, one + three - two]))
        self.assertEqual(never_paper(row, "+-", 0), rests_paper(row, "+-", 60))
        self.assertEqual(never_paper([5], "+", 5 + every // 59)[0], 59)
        # By 61 it would be shown.
        self.assertIsNone(never_paper([5], "+", 5 + every))

    def test_longer_rows_are_not_refused(self):
        for many in range(7, 10):
            told = never_paper([2] * many, "+-*", 1)
            self.assertEqual(told, rests_paper([2] * many, "+-*", 2))

    def test_told_soon(self):
        start = time.perf_counter()
        never_paper(TWELVE_FIGURES[:6], "+-*", 10 ** 39)
        way_to_rest(TWELVE_FIGURES, "+-*", 60, 59)
        rest_counts(TWELVE_FIGURES, "+-*", 60)
        self.assertLess(time.perf_counter() - start, 5)


class Refused(unittest.TestCase):
    def test_no_row_then_no_signs(self):
        for thing in anything() + list(NO_ROWS):
            for call, rest in ((rest_counts, (2,)), (way_to_rest, (2, 0)), (rests_say, (None,)), (rests_paper, (2,)),
                               (never_paper, (2,))):
                self.assertIs(refusal(call, thing, "+", *rest), NoRow)
                self.assertIs(refusal(call, thing, thing, *([thing] * len(rest))), NoRow)
        for thing in anything() + list(NO_SIGNS):
            for call, rest in ((rest_counts, (2,)), (way_to_rest, (2, 0)), (rests_say, (None,)), (rests_paper, (2,)),
                               (never_paper, (2,))):
                self.assertIs(refusal(call, [5], thing, *rest), NoSigns)
                self.assertIs(refusal(call, NINE, thing, *([thing] * len(rest))), NoSigns)

    def test_no_m(self):
        for thing in anything() + list(NO_M):
            self.assertIs(refusal(rest_counts, [1, 2], "+", thing), NoNumber)
            self.assertIs(refusal(rests_paper, [1, 2], "+", thing), NoNumber)
            self.assertIs(refusal(way_to_rest, [1, 2], "+", thing, 0), NoNumber)
            self.assertIs(refusal(way_to_rest, [1, 2], "+", thing, thing), NoNumber)
        for m in range(2, 61):
            self.assertIsNone(refusal(rest_counts, [1, 2], "+", m))
            self.assertIsNone(refusal(rests_paper, [1, 2], "+", m))
            self.assertIsNone(refusal(way_to_rest, [1, 2], "+", m, m - 1))

    def test_no_rest(self):
        for m in (2, 7, 60):
            for thing in anything() + [-1, -m, m, m + 1, 60, 10 ** 39, -10 ** 39, True, False, "0", [0]]:
                self.assertIs(refusal(way_to_rest, [1, 2], "+-*", m, thing), NoNumber)

    def test_no_number(self):
        for thing in anything() + [True, False, [5], "5", ("+", 1, 2)]:
            for row in ([5], NINE[:6]):
                self.assertIs(refusal(never_paper, row, "+-*", thing), NoNumber)


if __name__ == "__main__":
    unittest.main()
