"""The ways of a row with signs to put, in their order: counted, by their numbers, and numbered."""

from putsigns.errors import NoFit, NoNumber
from putsigns.ways import cuts_of, is_whole, join_signs, list_numbers, need_many, need_row, need_signs, need_way


def how_many_ways(signs, many):
    """Tell how many ways rows of so many numbers have with signs to put."""
    need_signs(signs)
    need_many(many)
    return counts_up_to(signs, many)[many]


def nth_way(row, signs, number):
    """Tell the way of a row with signs to put that has a number, from 0 on."""
    need_row(row)
    need_signs(signs)
    counts = counts_up_to(signs, len(row))
    if not is_whole(number) or not 0 <= number < counts[len(row)]:
        raise NoNumber("no way has this number")
    return way_at(row, signs, counts, number)


def number_of_way(way, signs):
    """Tell the number of a way among the ways of its row with signs to put."""
    need_way(way)
    need_signs(signs)
    if not has_signs_among(way, signs):
        raise NoFit("a sign of this way is not among the signs to put")
    counts = counts_up_to(signs, len(list_numbers(way)))
    return number_at(way, signs, counts)


def has_signs_among(way, signs):
    """Tell whether all signs of what is known to be a way are among the signs to put."""
    return all([sign in signs for sign in join_signs(way)])


def counts_up_to(signs, many):
    """Count the ways of rows of 0 numbers (none), of 1, and so on up to many; the place is how many numbers."""
    counts = [0, 1]
    for length in range(2, many + 1):
        by_left = [ways_by_cut(signs, counts, left, length - left) for left in range(1, length)]
        counts.append(sum(by_left))
    return counts


def ways_by_cut(signs, counts, left, right):
    """Count the ways whose left and right ways have so many numbers."""
    return len(signs) * counts[left] * counts[right]


def way_at(row, signs, counts, number):
    """Find the way with a number that is known to be one of the row's."""
    many = len(row)
    if many == 1:
        return row[0]
    left = 1
    while number >= ways_by_cut(signs, counts, left, many - left):
        number -= ways_by_cut(signs, counts, left, many - left)
        left += 1
    both, right_number = divmod(number, counts[many - left])
    place, left_number = divmod(both, counts[left])
    left_way = way_at(row[:left], signs, counts, left_number)
    right_way = way_at(row[left:], signs, counts, right_number)
    return (signs[place], left_way, right_way)


def number_at(way, signs, counts):
    """Number a way all whose signs are known to be among the signs to put."""
    if is_whole(way):
        return 0
    sign, left_way, right_way = way
    left = len(list_numbers(left_way))
    right = len(list_numbers(right_way))
    ahead = sum([ways_by_cut(signs, counts, fewer, left + right - fewer) for fewer in range(1, left)])
    # The signs to put stand in the order in which ways are ordered by their own sign.
    both = signs.index(sign) * counts[left] + number_at(left_way, signs, counts)
    return ahead + both * counts[right] + number_at(right_way, signs, counts)


def joints_of(signs, counts, stretch):
    """List how the ways of a stretch are joined, in their order: tuples (before, sign, behind, start, step).

    The way with this sign, of the way of before with the number left and that of behind with the number right,
    has the number start + left * step + right among the ways of the stretch.
    """
    joints = []
    start = 0
    for before, behind in cuts_of(stretch):
        left_ways = counts[before[1] - before[0] + 1]
        right_ways = counts[behind[1] - behind[0] + 1]
        for sign in signs:
            joints.append((before, sign, behind, start, right_ways))
            start += left_ways * right_ways
    return joints
