"""All worths of the ways of a row, and how many ways have them."""

from putsigns.ways import cuts_of, need_at_most, need_row, need_signs, need_whole, shorter_first
from putsigns.worths import put_sign

MOST_TO_LIST = 6
MOST_TO_COUNT = 7


def worths_of(row, signs):
    """Tell the unlike worths of the ways of a row with signs to put, a sorted list."""
    need_row(row)
    need_signs(signs)
    need_at_most(row, MOST_TO_LIST)
    return sorted(count_by_worth(row, signs))


def how_many_worths(row, signs):
    """Tell how many unlike worths there are."""
    return len(counted_without_number(row, signs))


def can_be(row, signs, number):
    """Tell whether a number is a worth."""
    return number in counted_for_number(row, signs, number)


def nearest_to(row, signs, number):
    """Tell the worth nearest to a number, or the two that are as near, a sorted list."""
    worths = list(counted_for_number(row, signs, number))
    nearest = min([abs(worth - number) for worth in worths])
    return sorted([worth for worth in worths if abs(worth - number) == nearest])


def how_many_with(row, signs, number):
    """Tell how many ways have a number as their worth."""
    return counted_for_number(row, signs, number).get(number, 0)


def most_often(row, signs):
    """Tell the worth that most ways have, of several the least, with how many: a tuple (worth, many)."""
    counted = counted_without_number(row, signs)
    return min(list(counted.items()), key=lambda pair: (-pair[1], pair[0]))


def counted_without_number(row, signs):
    """Count as count_by_worth does what is asked of a row and signs to put, or refuse it."""
    need_row(row)
    need_signs(signs)
    need_at_most(row, MOST_TO_COUNT)
    return count_by_worth(row, signs)


def counted_for_number(row, signs, number):
    """Count as count_by_worth does what is asked of a row, signs to put and a number, or refuse it."""
    need_row(row)
    need_signs(signs)
    need_whole(number)
    need_at_most(row, MOST_TO_COUNT)
    return count_by_worth(row, signs)


def count_by_worth(row, signs):
    """Count how many ways of a row have each worth, a dict from the worths."""
    counted = {}
    for stretch in shorter_first(len(row)):
        first, last = stretch
        counted[stretch] = {row[first]: 1} if first == last else count_stretch(counted, signs, stretch)
    return counted[(0, len(row) - 1)]


def count_stretch(counted, signs, stretch):
    """Count the ways of a stretch by their worths, of what is counted of shorter stretches."""
    many = {}
    for before, behind in cuts_of(stretch):
        for sign in signs:
            count_joined(many, counted[before], sign, counted[behind])
    return many


def count_joined(many, lefts, sign, rights):
    """Add to what is counted the ways that join with a sign each of the left ones and each of the right ones."""
    for left, many_left in lefts.items():
        for right, many_right in rights.items():
            worth = put_sign(left, sign, right)
            many[worth] = many.get(worth, 0) + many_left * many_right
