"""Flat ways: those without brackets, one for each row of signs."""

from putsigns.ways import need_row, need_signs, need_whole
from putsigns.worths import put_sign


def flat_worths(row, signs):
    """Tell the unlike worths of the flat ways of a row with signs to put, a sorted list."""
    need_row(row)
    need_signs(signs)
    return sorted({worth for way, worth in list_flat(row, signs)})


def flat_way_to(row, signs, number):
    """Tell the first flat way of a row with signs to put that has a told worth, or None."""
    need_row(row)
    need_signs(signs)
    need_whole(number)
    for way, worth in list_flat(row, signs):
        if worth == number:
            return way
    return None


def list_flat(row, signs):
    """List the flat ways of a row in their order, each as a tuple (way, worth)."""
    flat = {1: [(row[0], row[0])]}
    for many in range(2, len(row) + 1):
        flat[many] = join_flat(row[:many], signs, flat)
    return flat[len(row)]


def join_flat(row, signs, flat):
    """Join the flat ways of a row, in their order, of those of its first numbers: a dict from how many these are.

    Without brackets, all that stands right of `+` and `-` is a number or one product. A way with `*` is a product from
    left to right throughout: its left way has all numbers but the last, and of the signs `*` goes last, so it is last.
    """
    joined = []
    for left in range(1, len(row)):
        for right_way, right in list_products(row[left:], signs):
            for sign in signs.replace("*", ""):
                joined += [((sign, way, right_way), put_sign(worth, sign, right)) for way, worth in flat[left]]
    return joined + list_products(row, signs)


def list_products(numbers, signs):
    """List the product of numbers from left to right, a tuple (way, worth); nothing where it can't be put."""
    if len(numbers) > 1 and "*" not in signs:
        return []
    way = worth = numbers[0]
    for number in numbers[1:]:
        way = ("*", way, number)
        worth *= number
    return [(way, worth)]
