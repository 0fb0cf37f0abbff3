"""Numbers held together and kept apart: the ways that keep holds."""

from putsigns.bounds import picks_by_stretch
from putsigns.errors import NoHolds
from putsigns.ordered import counts_up_to, way_at
from putsigns.ways import cuts_of, is_many, is_pair, need_row, need_signs, shorter_first

MOST_STRETCHES = 40


def is_holds(thing, many):
    """Tell of anything whether it is holds for so many numbers."""
    if not is_many(many) or not isinstance(thing, tuple) or len(thing) != 2:
        return False
    return all([is_list_of_stretches(part, many) for part in thing])


def is_list_of_stretches(thing, many):
    """Tell of anything whether it is a list of at most forty stretches of two numbers and more."""
    if not isinstance(thing, list) or len(thing) > MOST_STRETCHES:
        return False
    return all([is_pair(pair) and 0 <= pair[0] < pair[1] < many for pair in thing])


def how_many_held(row, signs, holds):
    """Tell how many ways of a row with signs to put keep holds."""
    need_holds(row, signs, holds)
    return count_kept(len(row), signs, list_left_out(len(row), holds))


def first_held(row, signs, holds):
    """Tell the first way that keeps holds, or None."""
    picks = picks_held(row, signs, holds)
    return way_picked(row, signs, picks[0]) if picks else None


def bounds_held(row, signs, holds):
    """Tell the least and the greatest worth of the ways that keep holds, a tuple, or None."""
    picks = picks_held(row, signs, holds)
    return (picks[1][0], picks[2][0]) if picks else None


def greatest_held(row, signs, holds):
    """Tell the first way with the greatest worth of those that keep holds, or None."""
    picks = picks_held(row, signs, holds)
    return way_picked(row, signs, picks[2]) if picks else None


def least_held(row, signs, holds):
    """Tell the first way with the least worth of those that keep holds, or None."""
    picks = picks_held(row, signs, holds)
    return way_picked(row, signs, picks[1]) if picks else None


def may_be_parts(row, signs, holds):
    """Tell the stretches of two numbers and more that are a part's in some way that keeps holds, a sorted list."""
    need_holds(row, signs, holds)
    return list_may_be(len(row), signs, holds)


def must_be_parts(row, signs, holds):
    """Tell the stretches of two numbers and more that are a part's in all ways that keep holds, a sorted list."""
    need_holds(row, signs, holds)
    held, barred = holds
    many = len(row)
    return [
        stretch
        for stretch in list_may_be(many, signs, holds)
        if count_kept(many, signs, list_left_out(many, (held, barred + [stretch]))) == 0
    ]


def need_holds(row, signs, thing):
    """Refuse what is no row, no signs to put, or no holds for the row."""
    need_row(row)
    need_signs(signs)
    if not is_holds(thing, len(row)):
        raise NoHolds("these are no holds for the row")


def list_may_be(many, signs, holds):
    """List, sorted, the stretches that are a part's in some way of so many numbers that keeps holds."""
    held, barred = holds
    return [
        (first, last)
        for first, last in sorted(shorter_first(many))
        if first < last and count_kept(many, signs, list_left_out(many, (held + [(first, last)], barred)))
    ]


def list_left_out(many, holds):
    """List the stretches that are no part's in ways that keep holds: the barred ones, and those that cross a held one.

    No way has crossing parts. And a way none of whose parts crosses a stretch has this as a part: of the least of its
    parts that has the stretch within it, neither the left nor the right way reaches beyond the stretch. So ways keep
    holds just where none of their parts is left out.
    """
    held, barred = holds
    return [
        stretch
        for stretch in shorter_first(many)
        if stretch in barred or any([do_cross(stretch, other) for other in held])
    ]


def do_cross(one, other):
    """Tell whether two stretches share some numbers while each has some of its own."""
    return one[0] < other[0] <= one[1] < other[1] or other[0] < one[0] <= other[1] < one[1]


def count_kept(many, signs, left_out):
    """Count the ways of so many numbers none of whose parts is left out."""
    counts = {}
    for stretch in shorter_first(many):
        if stretch in left_out:
            counts[stretch] = 0
        elif stretch[0] == stretch[1]:
            counts[stretch] = 1
        else:
            counts[stretch] = len(signs) * sum([counts[before] * counts[behind] for before, behind in cuts_of(stretch)])
    return counts[(0, many - 1)]


def picks_held(row, signs, holds):
    """Pick of the ways that keep holds the first, the first least and the first greatest; none where there is none."""
    need_holds(row, signs, holds)
    return picks_by_stretch(row, signs, list_left_out(len(row), holds))[(0, len(row) - 1)]


def way_picked(row, signs, pick):
    """Find the way of what was picked, a tuple (worth, number of the way)."""
    return way_at(row, signs, counts_up_to(signs, len(row)), pick[1])
