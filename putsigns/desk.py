"""The desk: it is told lines, and answers each by a text."""

from putsigns.bounds import first_greatest, first_least
from putsigns.counted import first_way, how_many_forms, nth_form
from putsigns.errors import NoAsk, NoRow
from putsigns.every import can_be, how_many_worths, nearest_to
from putsigns.flat import flat_way_to
from putsigns.forms import are_twins
from putsigns.held import how_many_held
from putsigns.rests import never_paper, way_to_rest
from putsigns.texts import are_figures, read_holds, read_number, read_row, read_way, write_number, write_numbers
from putsigns.texts import write_way
from putsigns.told import way_to
from putsigns.ways import need_signs
from putsigns.worths import find_worth

MOST_FIGURES = 40


def keep_row(desk, values):
    """Keep another row."""
    desk.row = values[0]
    return "ok"


def keep_signs(desk, values):
    """Keep other signs to put."""
    need_signs(values[0])
    desk.signs = values[0]
    return "ok"


def say_most(desk, values):
    """Answer with the greatest worth and the first way that has it."""
    return worth_and_way(first_greatest(desk.row, desk.signs))


def say_least(desk, values):
    """Answer with the least worth and the first way that has it."""
    return worth_and_way(first_least(desk.row, desk.signs))


def say_worth(desk, values):
    """Answer with the worth of a way."""
    return write_number(find_worth(values[0]))


def say_worths(desk, values):
    """Answer with how many unlike worths there are."""
    return write_number(how_many_worths(desk.row, desk.signs))


def say_can(desk, values):
    """Answer whether a number is a worth."""
    return yes_or_no(can_be(desk.row, desk.signs, values[0]))


def say_near(desk, values):
    """Answer with the worths nearest to a number."""
    return write_numbers(nearest_to(desk.row, desk.signs, values[0]))


def say_get(desk, values):
    """Answer with the way to a worth that has the fewest brackets."""
    return way_or_none(way_to(desk.row, desk.signs, values[0]))


def say_flat(desk, values):
    """Answer with the first flat way to a worth."""
    return way_or_none(flat_way_to(desk.row, desk.signs, values[0]))


def say_forms(desk, values):
    """Answer with how many forms there are."""
    return write_number(how_many_forms(desk.signs, len(desk.row)))


def say_form(desk, values):
    """Answer with the first way that has the form with a number."""
    form = nth_form(desk.row, desk.signs, values[0])
    return write_way(first_way(desk.row, desk.signs, form))


def say_twins(desk, values):
    """Answer whether two ways are twins."""
    return yes_or_no(are_twins(values[0], values[1]))


def say_held(desk, values):
    """Answer with how many ways keep holds."""
    return write_number(how_many_held(desk.row, desk.signs, values[0]))


def say_rest(desk, values):
    """Answer with the first way that leaves a rest."""
    return way_or_none(way_to_rest(desk.row, desk.signs, values[0], values[1]))


def say_never(desk, values):
    """Answer with the least number by whose rests a worth can't be had."""
    paper = never_paper(desk.row, desk.signs, values[0])
    return "none" if paper is None else write_number(paper[0])


def worth_and_way(way):
    """Write the worth of a way, and the way."""
    return f"{write_number(find_worth(way))} {write_way(way)}"


def way_or_none(way):
    """Write a way, or that there is none."""
    return "none" if way is None else write_way(way)


def yes_or_no(truth):
    """Write a truth."""
    return "yes" if truth else "no"


# Of each word: what stands behind it, whether it asks for a row, and what answers it, told the desk and what was read.
ASKS = {
    "row": (("ROW",), False, keep_row),
    "signs": (("SIGNS",), False, keep_signs),
    "most": ((), True, say_most),
    "least": ((), True, say_least),
    "worth": (("WAY",), False, say_worth),
    "worths": ((), True, say_worths),
    "can": (("N",), True, say_can),
    "near": (("N",), True, say_near),
    "get": (("N",), True, say_get),
    "flat": (("N",), True, say_flat),
    "forms": ((), True, say_forms),
    "form": (("K",), True, say_form),
    "twins": (("WAY", "WAY"), False, say_twins),
    "held": (("HOLDS",), True, say_held),
    "rest": (("K", "K"), True, say_rest),
    "never": (("N",), True, say_never),
}


class Desk:
    """Keeps a row and signs to put, and answers lines about them."""

    def __init__(self):
        self.row = None
        self.signs = "+-*"

    def answer(self, line):
        """Answer a line by a text, or refuse it."""
        word, texts = split_line(line)
        kinds, asks_for_row, action = ASKS[word]
        if asks_for_row and self.row is None:
            raise NoRow("this desk keeps no row")
        return action(self, [read_value(kind, text) for kind, text in zip(kinds, texts)])


def split_line(line):
    """Split a line into its word and the texts behind it, or refuse what is none of the lines."""
    if not isinstance(line, str) or "\n" in line:
        raise NoAsk("this is no line of text")
    word, blank, behind = line.partition(" ")
    if word not in ASKS:
        raise NoAsk("no line begins with this word")
    kinds = ASKS[word][0]
    if blank == "":
        texts = []
    elif kinds in (("ROW",), ("HOLDS",)):
        texts = [behind]
    else:
        texts = behind.split(" ")
    if len(texts) != len(kinds) or not all([is_fit(kind, text) for kind, text in zip(kinds, texts)]):
        raise NoAsk("this is not what stands behind the word")
    return (word, texts)


def is_fit(kind, text):
    """Tell whether a text may stand where a kind is asked for: numbers have to be written, all else may be anything."""
    if kind == "N":
        return len(text.removeprefix("~")) <= MOST_FIGURES and read_number(text) is not None
    if kind == "K":
        return len(text) <= MOST_FIGURES and are_figures(text)
    return True


def read_value(kind, text):
    """Read what a kind of text writes, or refuse it."""
    if kind == "ROW":
        return read_row(text)
    if kind == "WAY":
        return read_way(text)
    if kind == "HOLDS":
        return read_holds(text)
    if kind == "SIGNS":
        return text
    return read_number(text)
