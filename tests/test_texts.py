"""[25], and [6]: rows, ways and holds, written and read back."""

import itertools
import unittest

from putsigns.errors import NoHolds, NoRow, NoText, NoWay
from putsigns.texts import holds_text, read_holds, read_row, read_way, row_text, way_text
from samples import NINE, NO_ROWS, NO_WAYS, SHORT_ROWS, TWELVE_FIGURES
from samples import all_ways, anything, left_way, long_stretches, refusal, right_way, written

GREAT = 10 ** 399
BEYOND = 10 ** 5000 + 12345
ROW_TEXTS = {
    "0": [0], "7": [7], "~7": [-7], "10": [10], "~10": [-10], "1 2": [1, 2], "0 ~5 0": [0, -5, 0],
    "1 2 3 4 5 6 7 8 9": NINE, "999999999999 ~999999999999": [10 ** 12 - 1, 1 - 10 ** 12],
}
WAY_TEXTS = {
    "0": 0, "~3": -3, "12": 12, "1+2": ("+", 1, 2), "1-~2": ("-", 1, -2), "~1*~2": ("*", -1, -2),
    "1+2+3": ("+", ("+", 1, 2), 3), "1+(2+3)": ("+", 1, ("+", 2, 3)), "1-2-3": ("-", ("-", 1, 2), 3),
    "1-(2-3)": ("-", 1, ("-", 2, 3)), "1+2*3": ("+", 1, ("*", 2, 3)), "(1+2)*3": ("*", ("+", 1, 2), 3),
    "1*2+3": ("+", ("*", 1, 2), 3), "1*(2+3)": ("*", 1, ("+", 2, 3)), "1*2*3": ("*", ("*", 1, 2), 3),
    "1*(2*3)": ("*", 1, ("*", 2, 3)), "(1-2)*(3-4)": ("*", ("-", 1, 2), ("-", 3, 4)),
    "1-(2-(3-4))": ("-", 1, ("-", 2, ("-", 3, 4))), "1*2-3*4": ("-", ("*", 1, 2), ("*", 3, 4)),
    "(1+2)*3*(4*5)": ("*", ("*", ("+", 1, 2), 3), ("*", 4, 5)), "1+2+3+4+5+6+7+8+9": left_way(NINE),
    "1+(2+(3+(4+(5+(6+(7+(8+9)))))))": right_way(NINE),
}
HOLDS_TEXTS = {
    "/": ([], []), "0-1 /": ([(0, 1)], []), "/ 0-1": ([], [(0, 1)]), "0-1 2-3 / 1-2": ([(0, 1), (2, 3)], [(1, 2)]),
    "7-8 0-8 / 0-8 0-8": ([(7, 8), (0, 8)], [(0, 8), (0, 8)]), "2-3 0-1 2-3 /": ([(2, 3), (0, 1), (2, 3)], []),
}
NO_ROW_TEXTS = (
    "", " ", "1 ", " 1", "1  2", "1\n", "\n1", "1\t2", "\t", "01", "00", "~0", "~", "~~1", "-1", "+1", "1.", "1,2", "~01",
    "1 ~", "~ 1", "1 02", "x", "1 x", "[1, 2]", "1+2", "1_0", "1 2 3 4 5 6 7 8 9 10", "1 2 3 4 5 6 7 8 9 ", "(1)", "1e3",
    "1 2\n", "0x1", "1 2 3 4 5 6 7 8 9 0 1 2 3", "1" * 10 + " " * 10, "~1~", "1~", "0 ~0", "None", "1 /",
)
NO_WAY_TEXTS = (
    "", " ", "1 ", " 1", "1 + 2", "1+ 2", "1 +2", "1+2\n", "\n1+2", "1\t+2", "01", "1+02", "~0", "1-~0", "~", "~~1", "+1",
    "-1", "1+", "1-", "1*", "*1", "1++2", "1+-2", "1**2", "1-+2", "()", "(", ")", "(1)", "((1))", "(1+2)", "((1+2))*3",
    "(1)+2", "1+(2)", "(1+2)+3", "(1+2)-3", "(1*2)*3", "(1*2)+3", "1+(2*3)", "1-(2*3)", "1*(2)", "1+2)", "(1+2",
    "1+(2+3", "1+2+3)", "1)+(2", "(1+2)*(3", "(1+2)(3+4)", "1(2+3)", "(1+2)3", "1+(2+3)4", "x", "1+x", "1/2", "1.5", "1_0",
    "~(1+2)", "1+()", "1+2+3+4+5+6+7+8+9+10", "1+(2+(3+(4+(5+(6+(7+(8+(9+10))))))))", "1+[2+3]", "((1+2)*3)", "1+((2+3))",
    "+".join(["1"] * 200), "(" * 200 + "1" + ")" * 199, "(" * 400, ")" * 400, "+" * 400, "1" + "*(1" * 100 + ")" * 99,
    "(" * 130 + "1+1" + ")" * 130, "-" * 9, "~" * 400, "1 2", "('+', 1, 2)", "1+2 ", "(1+2)*3)", "((1+2)*3",
)
NO_HOLDS_TEXTS = (
    "", " ", "/ ", " /", "//", "/ /", "/  ", "0-1", "0-1 ", "0-1/", "/0-1", "0-1  /", "0-1 /  1-2", " 0-1 /", "0-1 / ",
    "0-1 / 1-2 ", "0-1 / 1-2 / 2-3", "1-0 /", "1-1 /", "0-9 /", "8-9 /", "0-10 /", "00-1 /", "0-01 /", "0-1- /", "0--1 /",
    "-1 /", "0- /", "- /", "0 /", "01 /", "~0-1 /", "0-~1 /", "0-1\n/", "0-1 /\n", "\n/", "0-1\t/", "a-b /", "0-1 x",
    "0-1 / x", "0_1 /", "0-1,1-2 /", "0-1 1-2", "/ 0-0", "/ 3-2", "/ 0-9", "(0-1) /", "0 - 1 /", " / ", "0-1 1-2/ 2-3",
    " ".join(["0-1"] * 41 + ["/"]), " ".join(["/"] + ["0-1"] * 41), " ".join(["0-1"] * 60 + ["/"]), "+0-1 /",
)
# Signs of which edits of texts are made.
SIGNS_OF_TEXTS = " ~0123+-*()/\t\nx9"


def edits(text):
    """All texts that are otherwise in one sign: one left out, put in, or put instead."""
    for at in range(len(text) + 1):
        for sign in SIGNS_OF_TEXTS:
            yield text[:at] + sign + text[at:]
            yield text[:at] + sign + text[at + 1:]
        yield text[:at] + text[at + 1:]


class Written(unittest.TestCase):
    def test_rows(self):
        for text, row in ROW_TEXTS.items():
            self.assertEqual(row_text(row), text)
        for row in SHORT_ROWS + (NINE, TWELVE_FIGURES):
            self.assertEqual(row_text(row), " ".join(str(number).replace("-", "~") for number in row))

    def test_ways(self):
        for text, way in WAY_TEXTS.items():
            self.assertEqual(way_text(way), text)
        for way in all_ways([1, -2, 30, 0, -5], "+-*"):
            self.assertEqual(way_text(way), written(way))

    def test_holds(self):
        for text, holds in HOLDS_TEXTS.items():
            self.assertEqual(holds_text(holds), text)
        for first, last in long_stretches(9):
            self.assertEqual(holds_text(([(first, last)], [(first, last)])), f"{first}-{last} / {first}-{last}")
        self.assertEqual(holds_text(([(0, 1)] * 40, [(7, 8)] * 40)), "0-1 " * 40 + "/" + " 7-8" * 40)

    def test_kinds_of_values(self):
        for told in (row_text([1, 2]), way_text(("+", 1, 2)), way_text(5), holds_text(([], []))):
            self.assertIs(told.__class__, str)
        self.assertIs(read_row("1 2").__class__, list)
        self.assertIs(read_way("1+2").__class__, tuple)
        self.assertIs(read_way("1").__class__, int)
        told = read_holds("0-1 / 1-2")
        self.assertEqual((told.__class__, told[0].__class__, told[1].__class__), (tuple, list, list))
        self.assertIs(told[0][0].__class__, tuple)


class ReadBack(unittest.TestCase):
    def test_rows(self):
        for text, row in ROW_TEXTS.items():
            self.assertEqual(read_row(text), row)
        for row in SHORT_ROWS + (NINE, TWELVE_FIGURES, [GREAT], [-GREAT, 0], [BEYOND, -BEYOND]):
            self.assertEqual(read_row(row_text(row)), row)

    def test_ways(self):
        for text, way in WAY_TEXTS.items():
            self.assertEqual(read_way(text), way)
        for many in range(1, 6):
            for way in all_ways([12, -3, 0, 1, -10][:many], "+-*"):
                self.assertEqual(read_way(way_text(way)), way)

    def test_ways_of_nine_numbers(self):
        for numbers in (NINE, TWELVE_FIGURES, [0] * 9):
            for one, other, between in itertools.product("+-*", repeat=3):
                for cut in range(1, 9):
                    for join in (left_way, right_way):
                        way = (between, join(numbers[:cut], one), join(numbers[cut:], other))
                        self.assertEqual(read_way(way_text(way)), way)
        for way in (GREAT, -GREAT, BEYOND, ("*", -BEYOND, BEYOND)):
            self.assertEqual(read_way(way_text(way)), way)

    def test_holds(self):
        for text, holds in HOLDS_TEXTS.items():
            self.assertEqual(read_holds(text), holds)
        stretches = long_stretches(9)
        for held, barred in ((stretches, []), ([], stretches[::-1]), (stretches[::-1], stretches),
                             ([(0, 1)] * 40, []), ([], [(7, 8)] * 40)):
            self.assertEqual(read_holds(holds_text((held, barred))), (held, barred))

    def test_lists_are_the_askers_own(self):
        for text in ("/", "0-1 / 0-1"):
            first, second = read_holds(text), read_holds(text)
            self.assertIsNot(first[0], first[1])
            first[0].append(1)
            self.assertEqual(second, read_holds(text))
            self.assertNotIn(1, first[1])


class ALittleOtherwise(unittest.TestCase):
    def check(self, read, write, text):
        """The text is refused, or read to what writes it."""
        if refusal(read, text) is None:
            self.assertEqual(write(read(text)), text)
        else:
            self.assertIs(refusal(read, text), NoText, text)

    def test_rows(self):
        for text in list(ROW_TEXTS) + ["1 2 3 4 5 6 7 8 9 10", "12 ~34 0"]:
            for edit in edits(text):
                self.check(read_row, row_text, edit)

    def test_ways(self):
        for text in WAY_TEXTS:
            for edit in edits(text):
                self.check(read_way, way_text, edit)

    def test_holds(self):
        for text in HOLDS_TEXTS:
            for edit in edits(text):
                self.check(read_holds, holds_text, edit)

    def test_just_the_writings_of_all_short_texts(self):
        # Up to eight signs of these, so up to four numbers, all ways with such writings are known.
        known = {"1" * many for many in range(1, 9)}
        numbers = [int("1" * many) for many in range(1, 9)]
        for many, most in ((2, 6), (3, 4), (4, 2)):
            for row in itertools.product(numbers[:most], repeat=many):
                if len("".join(map(str, row))) + many - 1 <= 8:
                    known |= {text for text in map(written, all_ways(list(row), "+*")) if len(text) <= 8}
        read = set()
        for many in range(9):
            for signs in itertools.product("1+*()", repeat=many):
                text = "".join(signs)
                if refusal(read_way, text) is None:
                    read.add(text)
        self.assertEqual(read, known)

    def test_just_the_numbers_of_all_short_texts(self):
        known = {str(number).replace("-", "~") for number in range(-9999, 100000)}
        for many in range(6):
            for signs in itertools.product("01~-", repeat=many):
                text = "".join(signs)
                due = None if text in known else NoText
                self.assertIs(refusal(read_row, text), due, text)
                if "-" not in text:
                    self.assertIs(refusal(read_way, text), due, text)


class NoTexts(unittest.TestCase):
    def test_rows(self):
        for text in NO_ROW_TEXTS:
            self.assertIs(refusal(read_row, text), NoText, text)

    def test_ways(self):
        for text in NO_WAY_TEXTS:
            self.assertIs(refusal(read_way, text), NoText, text)

    def test_holds(self):
        for text in NO_HOLDS_TEXTS:
            self.assertIs(refusal(read_holds, text), NoText, text)

    def test_of_anything(self):
        for read in (read_row, read_way, read_holds):
            for thing in anything() + [5, [5], ("+", 1, 2), ["1"], ("1",), b"1", b"1+2", b"/", ([], []), ["/"]]:
                if thing.__class__ is not str:
                    self.assertIs(refusal(read, thing), NoText)
        for thing in anything():
            if thing.__class__ is str:
                self.assertIs(refusal(read_holds, thing), NoText if thing != "/" else None)
                for read in (read_row, read_way):
                    self.assertIs(refusal(read, thing), NoText if thing not in ("1", "~1") else None)


class NotToBeWritten(unittest.TestCase):
    def test_rows(self):
        for thing in anything() + list(NO_ROWS) + ["1 2"]:
            self.assertIs(refusal(row_text, thing), NoRow)

    def test_ways(self):
        for thing in anything() + list(NO_WAYS) + [left_way(NINE + [10]), "1+2"]:
            self.assertIs(refusal(way_text, thing), NoWay)

    def test_holds(self):
        for thing in anything() + [
            5, "/", [[], []], ((), ()), ([],), ([], [], []), ([(0, 9)], []), ([], [(8, 9)]), ([(1, 0)], []),
            ([(1, 1)], []), ([(-1, 1)], []), ([(0, True)], []), ([[0, 1]], []), ([(0, 1, 2)], []), ([(0, 1)] * 41, []),
            ([], [(0, 1)] * 41), (["0-1"], []), ([None], []), ([], None),
        ]:
            self.assertIs(refusal(holds_text, thing), NoHolds)


if __name__ == "__main__":
    unittest.main()
