"""The worths of ways and of their parts, and how a worth hangs on the number at a place."""

from putsigns.errors import NoPlace
from putsigns.ways import is_whole, list_numbers, need_way, need_whole


def worth_of(way):
    """Tell the worth of a way."""
    need_way(way)
    return find_worth(way)


def part_worths(way):
    """Tell the worths of all parts of a way, a dict from their stretches."""
    need_way(way)
    return worths_by_stretch(way, 0)


def hangs_by(way, place):
    """Tell the tuple (times, plus): whatever number stood at the place, the worth would be times it, and plus."""
    need_way(way)
    need_place(way, place)
    return times_and_plus(way, place)


def with_number(way, place, number):
    """Tell the way with another number at a place."""
    need_way(way)
    need_place(way, place)
    need_whole(number)
    return put_number(way, place, number)


def need_place(way, thing):
    """Refuse what is no place of a way."""
    if not is_whole(thing) or not 0 <= thing < len(list_numbers(way)):
        raise NoPlace("this is no place of the way")


def put_sign(left, sign, right):
    """Join two worths by a sign."""
    if sign == "+":
        return left + right
    if sign == "-":
        return left - right
    return left * right


def find_worth(way):
    """Find the worth of what is known to be a way."""
    if is_whole(way):
        return way
    sign, left, right = way
    return put_sign(find_worth(left), sign, find_worth(right))


def worths_by_stretch(way, first):
    """Find the worths of all parts of what is known to be a way, whose first number stands at the place first."""
    if is_whole(way):
        return {(first, first): way}
    sign, left, right = way
    cut = first + len(list_numbers(left))
    last = cut + len(list_numbers(right)) - 1
    worths = worths_by_stretch(left, first)
    worths.update(worths_by_stretch(right, cut))
    worths[(first, last)] = put_sign(worths[(first, cut - 1)], sign, worths[(cut, last)])
    return worths


def times_and_plus(way, place):
    """Find by what times and plus the worth hangs on a place, counted from the way's first number; 0 times beyond."""
    if is_whole(way):
        return (1, 0) if place == 0 else (0, way)
    sign, left, right = way
    left_times, left_plus = times_and_plus(left, place)
    right_times, right_plus = times_and_plus(right, place - len(list_numbers(left)))
    if sign == "*":
        # The place is in one of the two ways at most, so nothing hangs on its number times itself.
        return (left_times * right_plus + left_plus * right_times, left_plus * right_plus)
    return (put_sign(left_times, sign, right_times), put_sign(left_plus, sign, right_plus))


def put_number(way, place, number):
    """Put a number at a place, counted from the way's first number; a place beyond changes nothing."""
    if is_whole(way):
        return number if place == 0 else way
    sign, left, right = way
    right_place = place - len(list_numbers(left))
    return (sign, put_number(left, place, number), put_number(right, right_place, number))
