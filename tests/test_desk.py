"""[26], [27]: the desk, its lines and its refusals."""

import unittest

from putsigns.bounds import first_greatest, first_least, greatest_of, least_of
from putsigns.counted import first_way, how_many_forms, nth_form
from putsigns.desk import Desk
from putsigns.errors import NoAsk, NoHolds, NoNumber, NoRow, NoSigns, NoText, TooMany
from putsigns.every import can_be, how_many_worths, nearest_to
from putsigns.flat import flat_way_to
from putsigns.forms import are_twins
from putsigns.held import how_many_held
from putsigns.rests import never_paper, way_to_rest
from putsigns.told import way_to
from samples import NINE, SIGNS_TO_PUT, TWELVE_FIGURES, all_ways, anything, refusal, worth, written

FORTY = "9" * 40
ASKING_FOR_A_ROW = ("most", "least", "worths", "can 5", "near 5", "get 5", "flat 5", "forms", "form 0", "held /",
                    "rest 2 1", "never 5")
NO_LINES = (
    "", " ", "  ", "x", "Most", "MOST", "most ", " most", "most 1", "most\t", "\tmost", "most\n", "\nmost", "most\nleast",
    "least ", "least 5", "worths ", "worths 5", "forms ", "forms 5", "row", "rows", "rows 1", "row\t1", "row\n", "row 1\n",
    "row 1\n2", "row\n1", " row 1", "Row 1", "signs", "sign +", "signs  +", "signs + ", "signs + -", "signs +\n", "signs  ",
    "worth", "worth  1", "worth 1 ", "worth 1 2", "worth 1 + 2", "worth 1\n", "worth  ", "twins", "twins ", "twins 1",
    "twins 1 2 3", "twins  1 2", "twins 1  2", "twins 1 2 ", "twins 1 2\n", "twins   ", "held", "held\n", "held /\n",
    "held 0-1\n/", "can", "can ", "can  5", "can 5 ", "can 5 6", "can x", "can 05", "can ~0", "can -5", "can +5", "can ~",
    "can ~~5", "can 5\n", "can\t5", "can 5\t", "can 1+2", "can 5.", "can 1_0", "can ~05", "near", "near ", "near x",
    "near 5 5", "get", "get ", "get 00", "get ~0", "get 5 ", "flat", "flat ", "flat x", "flat 1 1", "form", "form ",
    "form ~1", "form -1", "form 00", "form 01", "form x", "form 0 ", "form 0 0", "form  0", "form +1", "form ~0", "rest",
    "rest ", "rest 2", "rest 2 ", "rest 2 1 ", "rest 2  1", "rest  2 1", "rest 2 1 0", "rest ~2 1", "rest 2 ~1", "rest 02 1",
    "rest 2 01", "rest x 1", "rest 2 x", "rest 2\t1", "never", "never ", "never x", "never 5 5", "never ~0", "ok", "yes",
    "none", "row1", "mostly", "can5", "exit", "help", "1+2", "1 2 3", "can 1" + "0" * 40, "can ~1" + "0" * 40,
    "form 1" + "0" * 40, "rest 2 1" + "0" * 40, "rest 1" + "0" * 40 + " 1", "never 1" + "0" * 40, "held/", "form 1.",
)


def row_line(row):
    return "row " + " ".join(map(number_text, row))


def number_text(number):
    return str(number).replace("-", "~")


def way_or_none(way):
    return "none" if way is None else written(way)


def told(*lines):
    """A desk that was told these lines."""
    desk = Desk()
    for line in lines:
        desk.answer(line)
    return desk


class Lines(unittest.TestCase):
    def test_written_out(self):
        desk = Desk()
        for line, answer in (
            ("row 1 2 3", "ok"), ("most", "9 (1+2)*3"), ("least", "~5 1-2*3"), ("signs +*", "ok"), ("most", "9 (1+2)*3"),
            ("least", "5 1*(2+3)"), ("worth 2*(3-~4)", "14"), ("worth ~7", "~7"), ("worths", "4"), ("can 5", "yes"),
            ("can 8", "no"), ("can ~5", "no"), ("near 8", "7 9"), ("near ~100", "5"), ("get 5", "1*2+3"),
            ("get 9", "(1+2)*3"), ("get 8", "none"), ("flat 7", "1+2*3"), ("flat 9", "none"), ("forms", "6"),
            ("form 0", "1+(2+3)"), ("form 5", "(1+2)*3"), ("twins 1-(2-3) 1-2+3", "yes"), ("twins 1+2 2+1", "no"),
            ("twins 5 5", "yes"), ("held 0-1 /", "4"), ("held /", "8"), ("held / 0-1", "4"), ("held 0-1 / 0-1", "0"),
            ("rest 5 4", "(1+2)*3"), ("rest 5 3", "none"), ("rest 2 0", "1+(2+3)"), ("never 8", "4"), ("never 5", "none"),
            ("never 0", "4"), ("signs -", "ok"), ("most", "2 1-(2-3)"), ("least", "~4 1-2-3"), ("row ~4 4", "ok"),
            ("near 5", "~8"), ("signs +*", "ok"), ("near ~8", "~16 0"), ("row 0", "ok"), ("most", "0 0"), ("form 0", "0"),
        ):
            self.assertEqual(desk.answer(line), answer, line)

    def check(self, desk, row, signs):
        most, least = greatest_of(row, signs), least_of(row, signs)
        self.assertEqual(desk.answer("most"), f"{number_text(most)} {written(first_greatest(row, signs))}")
        self.assertEqual(desk.answer("least"), f"{number_text(least)} {written(first_least(row, signs))}")
        self.assertEqual(desk.answer("worths"), str(how_many_worths(row, signs)))
        self.assertEqual(desk.answer("forms"), str(how_many_forms(signs, len(row))))
        for number in (most, least, 0, 1, -7, int(FORTY), -int(FORTY)):
            if abs(number) > int(FORTY):
                continue
            text = number_text(number)
            self.assertEqual(desk.answer("can " + text), "yes" if can_be(row, signs, number) else "no")
            self.assertEqual(desk.answer("near " + text), " ".join(map(number_text, nearest_to(row, signs, number))))
            self.assertEqual(desk.answer("get " + text), way_or_none(way_to(row, signs, number)))
            self.assertEqual(desk.answer("flat " + text), way_or_none(flat_way_to(row, signs, number)))
            paper = never_paper(row, signs, number)
            self.assertEqual(desk.answer("never " + text), "none" if paper is None else str(paper[0]))
        for number in range(0, how_many_forms(signs, len(row)), 11):
            due = first_way(row, signs, nth_form(row, signs, number))
            self.assertEqual(desk.answer(f"form {number}"), written(due))
        for m, rest in ((2, 0), (2, 1), (7, 3), (60, 59), (60, 0)):
            self.assertEqual(desk.answer(f"rest {m} {rest}"), way_or_none(way_to_rest(row, signs, m, rest)))
        self.assertEqual(desk.answer("held /"), str(how_many_held(row, signs, ([], []))))
        if len(row) > 2:
            self.assertEqual(desk.answer("held 0-1 / 0-1 1-2"), "0")
            self.assertEqual(desk.answer("held 0-1 0-1 / 1-2"), str(how_many_held(row, signs, ([(0, 1)], [(1, 2)]))))

    def test_as_the_stages_tell(self):
        desk = Desk()
        for row in ([7], [0], [-3, 3], [1, 2, 3], [4, -3, 2, -1], [0, 5, -1, 0, 2], TWELVE_FIGURES[:4], NINE[:6]):
            self.assertEqual(desk.answer(row_line(row)), "ok")
            for signs in SIGNS_TO_PUT:
                self.assertEqual(desk.answer("signs " + signs), "ok")
                self.check(desk, row, signs)

    def test_worths_of_ways(self):
        desk, other = Desk(), told("row 1 2 3", "signs +")
        for way in all_ways([12, -3, 0, 5], "+-*"):
            due = number_text(worth(way))
            self.assertEqual(desk.answer("worth " + written(way)), due)
            self.assertEqual(other.answer("worth " + written(way)), due)

    def test_twins(self):
        desk = Desk()
        ways = all_ways([2, -2, 1, 1], "+-*")
        for one, other in zip(ways, ways[::-1] + ways):
            due = "yes" if are_twins(one, other) else "no"
            self.assertEqual(desk.answer(f"twins {written(one)} {written(other)}"), due)
        for way in ways[::5]:
            self.assertEqual(desk.answer(f"twins {written(way)} {written(way)}"), "yes")

    def test_nine_numbers(self):
        desk = told(row_line(TWELVE_FIGURES))
        most, way = first_greatest(TWELVE_FIGURES, "+-*"), written(first_greatest(TWELVE_FIGURES, "+-*"))
        self.assertEqual(desk.answer("most"), f"{number_text(worth(most))} {way}")
        self.assertEqual(desk.answer("forms"), "834177")
        self.assertEqual(desk.answer("held /"), "9382230")
        self.assertEqual(desk.answer("form 834176"),
                         written(first_way(TWELVE_FIGURES, "+-*", nth_form(TWELVE_FIGURES, "+-*", 834176))))
        self.assertEqual(desk.answer("flat 1"), "none")

    def test_numbers_of_forty_figures(self):
        desk = told(f"row {FORTY} ~{FORTY}")
        self.assertEqual(desk.answer(f"worth {FORTY}"), FORTY)
        self.assertEqual(desk.answer(f"worth ~{FORTY}"), "~" + FORTY)
        self.assertEqual(desk.answer("can 0"), "yes")
        self.assertEqual(desk.answer("near 1"), "0")
        self.assertEqual(desk.answer(f"can {FORTY}"), "no")
        desk.answer(f"row {FORTY}")
        self.assertEqual(desk.answer("most"), f"{FORTY} {FORTY}")
        for word, answer in (("can", "yes"), ("near", FORTY), ("get", FORTY), ("flat", FORTY), ("never", "none")):
            self.assertEqual(desk.answer(f"{word} {FORTY}"), answer)
        for word, answer in (("can", "no"), ("near", FORTY), ("get", "none"), ("flat", "none"), ("never", "4")):
            self.assertEqual(desk.answer(f"{word} ~{FORTY}"), answer)
        self.assertIs(refusal(desk.answer, f"form {FORTY}"), NoNumber)
        self.assertIs(refusal(desk.answer, f"rest {FORTY} 0"), NoNumber)
        self.assertIs(refusal(desk.answer, f"rest 2 {FORTY}"), NoNumber)

    def test_kinds_of_values(self):
        desk = told("row 1 2 3")
        for line in ("row 1 2", "signs +", "worth 1", "twins 1 1") + ASKING_FOR_A_ROW:
            self.assertIs(desk.answer(line).__class__, str)


class Kept(unittest.TestCase):
    def test_row_and_signs(self):
        desk = Desk()
        self.assertEqual(desk.answer("signs +"), "ok")
        self.assertEqual(desk.answer("row 2 3 4"), "ok")
        self.assertEqual(desk.answer("most"), "9 2+(3+4)")
        desk.answer("row 5 6")
        self.assertEqual(desk.answer("most"), "11 5+6")
        desk.answer("signs *")
        self.assertEqual(desk.answer("most"), "30 5*6")
        for line in ("worth 1+1", "twins 1 2", "can 5", "held /"):
            desk.answer(line)
        self.assertEqual(desk.answer("most"), "30 5*6")

    def test_at_first_all_signs(self):
        self.assertEqual(told("row 2 3").answer("worths"), "3")
        self.assertEqual(told("row 2 3").answer("held /"), "3")

    def test_two_desks_do_not_touch_one_another(self):
        one, other = Desk(), Desk()
        one.answer("row 1 2")
        self.assertIs(refusal(other.answer, "most"), NoRow)
        other.answer("row 3 4")
        one.answer("signs +")
        self.assertEqual(one.answer("most"), "3 1+2")
        self.assertEqual(other.answer("most"), "12 3*4")
        self.assertIs(refusal(Desk().answer, "most"), NoRow)

    def test_the_same_again(self):
        desk = told("row 3 1 4 1 5")
        lines = ASKING_FOR_A_ROW + ("worth 1+2*3", "twins 1 2")
        self.assertEqual([desk.answer(line) for line in lines], [desk.answer(line) for line in lines])


class Refused(unittest.TestCase):
    def test_no_lines(self):
        for desk in (Desk(), told("row 1 2 3"), told("signs *")):
            for line in NO_LINES:
                self.assertIs(refusal(desk.answer, line), NoAsk, line)

    def test_of_anything(self):
        for desk in (Desk(), told("row 1 2 3")):
            for thing in anything() + [5, [5], ["most"], ("most",), b"most", ("+", 1, 2), {"most": 1}]:
                self.assertIs(refusal(desk.answer, thing), NoAsk)

    def test_no_row(self):
        for desk in (Desk(), told("signs +", "worth 1")):
            for line in ASKING_FOR_A_ROW + ("held ", "held x", "held  /", "held 0-9 /", "rest 1 1", "rest 61 99", "form 99",
                                            "can " + FORTY):
                self.assertIs(refusal(desk.answer, line), NoRow, line)

    def test_no_text(self):
        for desk in (Desk(), told("row 1 2 3")):
            for line in ("row ", "row  ", "row  1", "row 1 ", "row 1  2", "row x", "row 01", "row ~0", "row 1\t2", "row -1",
                         "row 1 2 3 4 5 6 7 8 9 10", "row 1,2", "worth ", "worth x", "worth (1)", "worth (1+2)+3",
                         "worth 1+", "worth ~0", "worth 1\t", "worth 1+2+3+4+5+6+7+8+9+1", "worth -1", "twins  ",
                         "twins 1 ", "twins  1", "twins x 1", "twins 1 x", "twins (1) 1", "twins 1 1+(2*3)"):
                self.assertIs(refusal(desk.answer, line), NoText, line)
        desk = told("row 1 2 3")
        for line in ("held ", "held  ", "held  /", "held / ", "held x", "held 0-1", "held 0-1 /  ", "held 1-0 /", "held 0-9 /",
                     "held 0-1/", "held / / ", "held / /", "held 00-1 /", "held 0-1\t/"):
            self.assertIs(refusal(desk.answer, line), NoText, line)

    def test_no_signs(self):
        for desk in (Desk(), told("row 1 2 3")):
            for line in ("signs ", "signs *+", "signs x", "signs ++", "signs +-*+", "signs +\t", "signs /", "signs +,-"):
                self.assertIs(refusal(desk.answer, line), NoSigns, line)

    def test_as_the_stages_refuse(self):
        desk = told("row 1 2 3")
        for line, due in (
            ("form 69", NoNumber), ("form 13", NoNumber), ("form 12", None), ("rest 1 0", NoNumber), ("rest 0 0", NoNumber),
            ("rest 61 0", NoNumber), ("rest 2 2", NoNumber), ("rest 60 59", None), ("held 0-3 /", NoHolds),
            ("held / 7-8", NoHolds), ("held 0-2 / 1-2", None),
        ):
            self.assertIs(refusal(desk.answer, line), due, line)
        for many in range(1, 10):
            desk = told(row_line(NINE[:many]), "signs +")
            for line in ("worths", "can 5", "near 5"):
                self.assertIs(refusal(desk.answer, line), TooMany if many > 7 else None)
            self.assertIs(refusal(desk.answer, "get 5"), TooMany if many > 6 else None)
            for line in ("most", "least", "flat 5", "forms", "form 0", "held /", "rest 2 0", "never 5"):
                self.assertIsNone(refusal(desk.answer, line))

    def test_behind_a_refused_line_all_is_as_before(self):
        desk = told("row 3 1 4 1 5 9 2", "signs -*")
        lines = ("most", "least", "worths", "can 5", "near 5", "flat 5", "forms", "form 7", "held 0-1 /", "rest 7 1")
        before = [desk.answer(line) for line in lines]
        for line in NO_LINES + ("row ", "row x", "row 1  2", "row 1 2 3 4 5 6 7 8 9 10", "signs ", "signs x", "signs *-",
                                "worth x", "held x", "held 0-8 /", "form " + FORTY, "rest 99 1", "get 5", None, 5, [1]):
            self.assertIsNotNone(refusal(desk.answer, line), line)
        self.assertEqual([desk.answer(line) for line in lines], before)
        empty = Desk()
        for line in ("row x", "row ", "signs x", "most"):
            self.assertIsNotNone(refusal(empty.answer, line))
        self.assertIs(refusal(empty.answer, "most"), NoRow)
        empty.answer("row 2 3")
        self.assertEqual(empty.answer("held /"), "3")


if __name__ == "__main__":
    unittest.main()
