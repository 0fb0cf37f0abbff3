"""What the tests share: things of all kinds, and ways listed and ordered by the document's words alone."""

import functools
import itertools
import operator

from putsigns import errors

SIGNS_TO_PUT = ("+", "-", "*", "+-", "+*", "-*", "+-*")
REFUSALS = (
    errors.NoRow, errors.NoSigns, errors.NoWay, errors.NoNumber, errors.NoPlace, errors.NoFit,
    errors.NoForm, errors.NoHolds, errors.TooMany, errors.NoText, errors.NoAsk,
)
NINE = [1, 2, 3, 4, 5, 6, 7, 8, 9]
NO_ROWS = (5, "+", ("+", 1, 2), (1, 2), NINE + [10])
NO_SIGNS = (5, [5], ("+", 1, 2), ["+"], "*+", "+-*/")
NO_WAYS = ("+", [5])
SHORT_ROWS = (
    [7], [0], [-3], [10 ** 12 - 1],
    [2, 3], [5, -5], [0, 0], [1, 1], [-2, -3], [0, -4], [-4, 0],
    [1, 2, 3], [1, 1, 1], [0, -1, 0], [2, -3, 0], [-1, -2, -3], [3, 3, -3],
    [4, -3, 2, -1], [0, 0, 0, 0], [1, 1, 1, 1], [2, 2, 2, 2], [0, 5, -1, 0], [-1, 0, 1, 0],
    [10 ** 12 - 1, 1 - 10 ** 12, 3, 10 ** 11],
    [1, 2, 3, 4, 5], [1, 1, 1, 1, 1], [2, 2, 2, 2, 2], [0, 1, 0, -1, 2], [-2, -2, -2, -2, -2], [3, 0, -3, 0, 3],
    [0, 0, 0, 0, 0], [1, -1, 1, -1, 2], [10 ** 12 - 1, 2, -10 ** 11, 0, -7], [10 ** 50, -1, 0, 1, -10 ** 50],
)
# Great unlike numbers, above and below 0, all of twelve figures.
TWELVE_FIGURES = [
    999999999989, -912345678901, 876543219871, -777777777773, 666666666661,
    -523456789013, 432109876543, -345678901237, 987654321019,
]
JOIN = {"+": operator.add, "-": operator.sub, "*": operator.mul}


class Prickly:
    """A thing that fails as soon as it is compared, measured, hashed, shown or asked for a truth."""

    def fail(self, *others):
        raise RuntimeError("this thing was touched")

    __eq__ = __ne__ = __lt__ = __gt__ = __le__ = __ge__ = fail
    __hash__ = __len__ = __bool__ = __iter__ = __getitem__ = fail
    __contains__ = __repr__ = __str__ = __int__ = __index__ = fail


def within(innermost, wrap, depth):
    """Wrap a thing so many times."""
    thing = innermost
    for step in range(depth):
        thing = wrap(thing)
    return thing


def left_way(numbers, sign="+"):
    """The way that joins its numbers from left to right."""
    return functools.reduce(lambda left, right: (sign, left, right), numbers)


def right_way(numbers, sign="+"):
    """The way that joins its numbers from right to left."""
    return functools.reduce(lambda right, left: (sign, left, right), reversed(numbers))


def anything():
    """Things that are no rows, no signs to put, no ways and no whole numbers."""
    return [
        None, True, False, Ellipsis, NotImplemented, Prickly(), Prickly, object(), len, lambda: 1,
        "", " ", "1", "x", "++", "-+", "+-*+", "/", "~1", b"", b"+", b"1", bytes(9),
        [], [None], [True], [1, True], [1, False, 2], ["1"], [[1]], [(1,)], [Prickly()], list(range(10)), [1] * 900,
        (), (1,), (1, 2), (1, 2, 3), ("+",), ("+", 1), ("+", 1, 2, 3), ("/", 1, 2), ("", 1, 2), ("+-", 1, 2),
        (Prickly(), 1, 2), ("+", Prickly(), 2), ("+", 1, Prickly()), (["+"], 1, 2), (b"+", 1, 2), (None, 1, 2),
        ["+", 1, 2], ("+", ["+", 1, 2], 3), ("+", 1, True), ("+", False, 1), ("*", 1, None), ("*", [1], 2),
        {}, {1: 2}, {"+": 1}, set(), {1, 2}, frozenset([1]), range(3), iter([1]), ValueError("x"), zip([1]),
        within([], lambda thing: [thing], 49), within((), lambda thing: (thing,), 49),
        within("x", lambda thing: ("+", thing, 1), 50), within(1, lambda thing: ("+", thing, 1), 50),
        within(1, lambda thing: ("*", 1, thing), 9), within({}, lambda thing: {1: thing}, 49),
    ]


def refusal(call, *arguments):
    """The class with which a call refuses, or None."""
    try:
        call(*arguments)
    except errors.PutError as refused:
        return refused.__class__
    return None


def all_ways(numbers, signs):
    """All ways of the numbers with the signs, in no order that is promised."""
    if len(numbers) == 1:
        return [numbers[0]]
    return [
        (sign, left, right)
        for cut in range(len(numbers) - 1, 0, -1)
        for right in all_ways(numbers[cut:], signs)
        for left in all_ways(numbers[:cut], signs)
        for sign in signs
    ]


def count_numbers(way):
    return 1 if isinstance(way, int) else count_numbers(way[1]) + count_numbers(way[2])


def compare(one, other):
    """Below 0 where the one way goes ahead of the other way of the same row, by [7]."""
    if isinstance(one, int):
        return 0
    by_left = count_numbers(one[1]) - count_numbers(other[1])
    by_sign = "+-*".index(one[0]) - "+-*".index(other[0])
    return by_left or by_sign or compare(one[1], other[1]) or compare(one[2], other[2])


def ways_in_order(numbers, signs):
    return sorted(all_ways(numbers, signs), key=functools.cmp_to_key(compare))


def written(way):
    """The writing of a way by [6]."""
    if isinstance(way, int):
        return str(way).replace("-", "~")
    sign, left, right = way
    left_text, right_text = written(left), written(right)
    if isinstance(left, tuple) and left[0] in "+-" and sign == "*":
        left_text = f"({left_text})"
    if isinstance(right, tuple) and (right[0] in "+-" or right[0] == sign == "*"):
        right_text = f"({right_text})"
    return left_text + sign + right_text


def worth(way):
    """The worth of a way by [8]."""
    return way if isinstance(way, int) else JOIN[way[0]](worth(way[1]), worth(way[2]))


@functools.cache
def shapes(many, signs):
    """All ways of so many numbers, in their order, with the places instead of the numbers."""
    return ways_in_order(list(range(many)), signs)


def filled(shape, row):
    """The way of a shape with the row's numbers at their places."""
    return row[shape] if isinstance(shape, int) else (shape[0], filled(shape[1], row), filled(shape[2], row))


def listed(row, signs):
    """All ways of a row in their order, each with its worth."""
    ways = [filled(shape, row) for shape in shapes(len(row), signs)]
    return [(way, worth(way)) for way in ways]


def form(way):
    """The plain form of a way by [16]."""
    if isinstance(way, int):
        return way
    sign, left, right = way
    if sign == "*":
        return ("times", tuple(factors(left) + factors(right)))
    turned = [({"+": "-", "-": "+"}[term], inner) for term, inner in terms(right)]
    return ("sum", tuple(terms(left) + (terms(right) if sign == "+" else turned)))


def terms(way):
    return list(form(way)[1]) if isinstance(way, tuple) and way[0] in "+-" else [("+", form(way))]


def factors(way):
    return list(form(way)[1]) if isinstance(way, tuple) and way[0] == "*" else [form(way)]


def count_in_form(one):
    """How many numbers a form has."""
    if isinstance(one, int):
        return 1
    return sum(count_in_form(part[1] if one[0] == "sum" else part) for part in one[1])


def compare_forms(one, other):
    """Below 0 where the one form goes ahead of the other form of the same row, by [17]."""
    if one == other:
        return 0
    if one[0] != other[0]:
        return -1 if one[0] == "sum" else 1
    for place, (part, other_part) in enumerate(zip(one[1], other[1])):
        by_sign = 0
        if one[0] == "sum":
            if place > 0:
                by_sign = "+-".index(part[0]) - "+-".index(other_part[0])
            part, other_part = part[1], other_part[1]
        by_many = count_in_form(part) - count_in_form(other_part)
        order = by_sign or by_many or compare_forms(part, other_part)
        if order:
            return order
    raise AssertionError("forms of one row differ in some part")


def forms_in_order(row, signs):
    """All forms of a row, in their order."""
    unlike = {form(way) for way, number in listed(row, signs)}
    return sorted(unlike, key=functools.cmp_to_key(compare_forms))


def all_stretches(many):
    """All stretches of so many numbers."""
    return [(i, j) for i in range(many) for j in range(i, many)]


def long_stretches(many):
    """All stretches of two numbers and more of so many numbers."""
    return [(i, j) for i, j in all_stretches(many) if i < j]


def parts_in(way, first=0):
    """The stretches of all parts of two numbers and more of a way, a set."""
    if isinstance(way, int):
        return set()
    cut = first + count_numbers(way[1])
    last = first + count_numbers(way) - 1
    return {(first, last)} | parts_in(way[1], first) | parts_in(way[2], cut)


def small_rows(numbers, many):
    """All rows of so many of these numbers."""
    return [list(row) for row in itertools.product(numbers, repeat=many)]
