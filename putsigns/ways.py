"""Rows, signs to put and ways: what they are, and what a way is made of."""

from putsigns.errors import NoNumber, NoRow, NoSigns, NoWay, TooMany

MOST_NUMBERS = 9
SIGNS = ("+", "-", "*")
SIGNS_TO_PUT = ("+", "-", "*", "+-", "+*", "-*", "+-*")


def is_whole(thing):
    """Tell whether a thing is a whole number."""
    # To Python a truth is an int, too.
    return isinstance(thing, int) and not isinstance(thing, bool)


def is_row(thing):
    """Tell of anything whether it is a row."""
    if not isinstance(thing, list) or not 1 <= len(thing) <= MOST_NUMBERS:
        return False
    return all([is_whole(number) for number in thing])


def is_signs(thing):
    """Tell of anything whether it is signs to put."""
    return isinstance(thing, str) and thing in SIGNS_TO_PUT


def is_many(thing):
    """Tell of anything whether rows may have so many numbers."""
    return is_whole(thing) and 1 <= thing <= MOST_NUMBERS


def is_sign(thing):
    """Tell whether a thing is one of the three signs."""
    return isinstance(thing, str) and thing in SIGNS


def is_way(thing):
    """Tell of anything whether it is a way."""
    waiting = [thing]
    numbers = 0
    # Each thing that waits has one number at least if it is a way: so this ends soon, however deep the thing is.
    while waiting and numbers + len(waiting) <= MOST_NUMBERS:
        part = waiting.pop()
        if is_whole(part):
            numbers += 1
        elif isinstance(part, tuple) and len(part) == 3 and is_sign(part[0]):
            waiting.append(part[1])
            waiting.append(part[2])
        else:
            return False
    return not waiting


def need_row(thing):
    """Refuse what is no row."""
    if not is_row(thing):
        # No message shows the thing: it may be too great to be written.
        raise NoRow("this is no row of one to nine whole numbers")


def need_signs(thing):
    """Refuse what is no signs to put."""
    if not is_signs(thing):
        raise NoSigns("these are no signs to put")


def need_way(thing):
    """Refuse what is no way."""
    if not is_way(thing):
        raise NoWay("this is no way of one to nine whole numbers")


def need_whole(thing):
    """Refuse what is no whole number."""
    if not is_whole(thing):
        raise NoNumber("this is no whole number")


def need_many(thing):
    """Refuse what rows can not have as how many numbers they have."""
    if not is_many(thing):
        raise NoNumber("rows have one to nine numbers")


def need_at_most(row, most):
    """Refuse a row of more than so many numbers."""
    if len(row) > most:
        raise TooMany("this row has too many numbers for what is asked")


def shorter_first(many):
    """List all stretches of so many numbers, shorter ones ahead: so that of each the parts of a cut go ahead."""
    return [(first, first + more) for more in range(many) for first in range(many - more)]


def has_all_stretches(thing, many):
    """Tell of anything whether it is a dict from all stretches of so many numbers, and from nothing else."""
    stretches = shorter_first(many)
    if not isinstance(thing, dict) or len(thing) != len(stretches):
        return False
    return all([stretch in thing for stretch in stretches])


def cuts_of(stretch):
    """List the pairs of stretches into which a stretch can be cut, those with fewer numbers before the cut ahead."""
    first, last = stretch
    return [((first, cut), (cut + 1, last)) for cut in range(first, last)]


def numbers_of(way):
    """Tell the numbers of a way, a list."""
    need_way(way)
    return list_numbers(way)


def list_numbers(way):
    """List the numbers of what is known to be a way."""
    if is_whole(way):
        return [way]
    sign, left, right = way
    return list_numbers(left) + list_numbers(right)


def signs_of(way):
    """Tell the signs of a way, a text with one sign between each two numbers."""
    need_way(way)
    return join_signs(way)


def join_signs(way):
    """Join the signs of what is known to be a way."""
    if is_whole(way):
        return ""
    sign, left, right = way
    return join_signs(left) + sign + join_signs(right)


def stretches_of(way):
    """Tell the stretches of all parts of two numbers and more, a sorted list."""
    need_way(way)
    return sorted(list_stretches(way, 0))


def list_stretches(way, first):
    """List the stretches in what is known to be a way, whose first number stands at the place first."""
    if is_whole(way):
        return []
    sign, left, right = way
    cut = first + len(list_numbers(left))
    last = cut + len(list_numbers(right)) - 1
    return [(first, last)] + list_stretches(left, first) + list_stretches(right, cut)


def way_by(row, between, stretches):
    """Tell the way with a row's numbers, these signs and these stretches, or None."""
    need_row(row)
    joints = len(row) - 1
    if not are_signs_between(between, joints) or not are_stretches(stretches, joints):
        return None
    way = join_stretch(row, between, stretches, (0, joints))
    # A way may be joined of some stretches while others, such as crossing ones, are left over.
    if way is None or stretches_of(way) != sorted(stretches):
        return None
    return way


def are_signs_between(thing, joints):
    """Tell of anything whether it is a text of so many signs."""
    if not isinstance(thing, str) or len(thing) != joints:
        return False
    return all([is_sign(sign) for sign in thing])


def are_stretches(thing, joints):
    """Tell of anything whether it is a list of so many tuples of two whole numbers."""
    if not isinstance(thing, list) or len(thing) != joints:
        return False
    return all([is_pair(pair) for pair in thing])


def is_pair(thing):
    """Tell of anything whether it is a tuple of two whole numbers."""
    return isinstance(thing, tuple) and len(thing) == 2 and is_whole(thing[0]) and is_whole(thing[1])


def join_stretch(row, between, stretches, stretch):
    """Join the way of one stretch at its first place where both sides are parts, or tell None."""
    if stretch[0] == stretch[1]:
        return row[stretch[0]]
    for before, behind in cuts_of(stretch):
        if is_part(before, stretches) and is_part(behind, stretches):
            # Were there a second such place, stretches would cross: so no other place needs to be tried.
            left = join_stretch(row, between, stretches, before)
            right = join_stretch(row, between, stretches, behind)
            return None if left is None or right is None else (between[before[1]], left, right)
    return None


def is_part(stretch, stretches):
    """Tell whether a stretch is a number's or one of the told ones."""
    return stretch[0] == stretch[1] or stretch in stretches


def brackets_in(way):
    """Tell how many pairs of brackets the writing of a way has."""
    need_way(way)
    return count_brackets(way)


def count_brackets(way):
    """Count the pairs of brackets of what is known to be a way."""
    if is_whole(way):
        return 0
    sign, left, right = way
    return brackets_around(sign, own_sign(left), own_sign(right)) + count_brackets(left) + count_brackets(right)


def own_sign(way):
    """Tell the own sign of what is known to be a way, an empty text of a number."""
    return "" if is_whole(way) else way[0]


def brackets_around(sign, left_sign, right_sign):
    """Count the pairs of brackets around the left and the right way of a sign, told by their own signs."""
    pairs = 0
    if left_in_brackets(sign, left_sign):
        pairs += 1
    if right_in_brackets(sign, right_sign):
        pairs += 1
    return pairs


def left_in_brackets(sign, left_sign):
    """Tell whether a left way with this own sign is written in brackets ahead of a sign."""
    return sign == "*" and left_sign in ("+", "-")


def right_in_brackets(sign, right_sign):
    """Tell whether a right way with this own sign is written in brackets behind a sign."""
    return right_sign in ("+", "-") or (sign == "*" and right_sign == "*")
