"""Rows, ways and holds, written and read back."""

from putsigns.errors import NoHolds, NoText
from putsigns.held import MOST_STRETCHES, is_holds
from putsigns.ways import MOST_NUMBERS, SIGNS, is_whole, need_row, need_way, shorter_first
from putsigns.ways import left_in_brackets, own_sign, right_in_brackets

FIGURES = "0123456789"
BELOW = "~"


def row_text(row):
    """Write a row."""
    need_row(row)
    return write_numbers(row)


def way_text(way):
    """Write a way."""
    need_way(way)
    return write_way(way)


def holds_text(holds):
    """Write holds."""
    if not is_holds(holds, MOST_NUMBERS):
        raise NoHolds("these are no holds for nine numbers")
    held, barred = holds
    words = [write_stretch(stretch) for stretch in held] + ["/"] + [write_stretch(stretch) for stretch in barred]
    return " ".join(words)


def read_row(text):
    """Read a row that is written."""
    need_text(text)
    row = [read_number(word) for word in text.split(" ")]
    if len(row) > MOST_NUMBERS or None in row:
        raise NoText("this text writes no row")
    return row


def read_way(text):
    """Read a way that is written."""
    need_text(text)
    # So a text with a thousand signs is not gone through one within another.
    signs = sum([text.count(sign) for sign in SIGNS])
    way = find_way(text) if signs < MOST_NUMBERS else None
    # Needless brackets were passed over: so the text has to be what the way writes.
    if way is None or write_way(way) != text:
        raise NoText("this text writes no way")
    return way


def read_holds(text):
    """Read holds that are written."""
    need_text(text)
    words = text.split(" ")
    if words.count("/") != 1:
        raise NoText("this text has not one stroke between held and barred stretches")
    middle = words.index("/")
    return (read_stretches(words[:middle]), read_stretches(words[middle + 1:]))


def need_text(thing):
    """Refuse what is no text at all."""
    if not isinstance(thing, str):
        raise NoText("this is no text")


def write_number(number):
    """Write a whole number by its figures, below 0 with `~` ahead."""
    left = abs(number)
    figures = []
    # Figure by figure, since Python's own str refuses numbers of some thousand figures.
    while left > 0 or not figures:
        left, last = divmod(left, 10)
        figures.append(FIGURES[last])
    figures.append(BELOW if number < 0 else "")
    return "".join(reversed(figures))


def write_numbers(numbers):
    """Write whole numbers with single blanks between."""
    return " ".join([write_number(number) for number in numbers])


def are_figures(text):
    """Tell whether a text is figures without a 0 ahead but 0 itself."""
    if text == "" or not all([figure in FIGURES for figure in text]):
        return False
    return text == "0" or text[0] != "0"


def read_number(text):
    """Read a whole number that is written, or tell None."""
    figures = text.removeprefix(BELOW)
    if not are_figures(figures) or text == "~0":
        return None
    number = 0
    for figure in figures:
        number = number * 10 + int(figure)
    return number if text == figures else -number


def write_way(way):
    """Write what is known to be a way."""
    if is_whole(way):
        return write_number(way)
    sign, left, right = way
    left_text = put_brackets(write_way(left), left_in_brackets(sign, own_sign(left)))
    right_text = put_brackets(write_way(right), right_in_brackets(sign, own_sign(right)))
    return left_text + sign + right_text


def put_brackets(text, is_due):
    """Put brackets around a text where they are due."""
    return f"({text})" if is_due else text


def find_way(text):
    """Find the way that a text with any brackets around its parts writes, or tell None."""
    number = read_number(text)
    if number is not None:
        return number
    at = last_joint(text)
    if at is None:
        return None
    left = find_way(without_brackets(text[:at]))
    right = find_way(without_brackets(text[at + 1:]))
    return None if left is None or right is None else (text[at], left, right)


def without_brackets(text):
    """Take one pair of brackets off a text that is all within it; brackets within these are left."""
    if text.startswith("(") and text.endswith(")") and last_joint(text) is None:
        return text[1:-1]
    return text


def last_joint(text):
    """Find the place of the sign outside of all brackets that joins last, or tell None.

    It is the last `+` or `-`, and where there is none the last `*`.
    """
    depth = 0
    sums = products = None
    for at, character in enumerate(text):
        if character == "(":
            depth += 1
        elif character == ")":
            depth -= 1
        elif depth == 0 and character in ("+", "-"):
            sums = at
        elif depth == 0 and character == "*":
            products = at
    return products if sums is None else sums


def write_stretch(stretch):
    """Write a stretch."""
    return f"{stretch[0]}-{stretch[1]}"


def read_stretches(words):
    """Read stretches that are written, a list, or refuse them."""
    known = {write_stretch((first, last)): (first, last) for first, last in shorter_first(MOST_NUMBERS) if first < last}
    stretches = [known.get(word) for word in words]
    if len(stretches) > MOST_STRETCHES or None in stretches:
        raise NoText("this text writes no stretches")
    return stretches
