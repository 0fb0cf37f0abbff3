"""The greatest and the least worths of all ways of a row, found of its stretches."""

from putsigns.ordered import counts_up_to, joints_of, way_at
from putsigns.ways import need_row, need_signs, shorter_first
from putsigns.worths import put_sign


def greatest_of(row, signs):
    """Tell the greatest worth of the ways of a row with signs to put."""
    first, least, greatest = picks_of_row(row, signs)
    return greatest[0]


def least_of(row, signs):
    """Tell the least worth of the ways of a row with signs to put."""
    first, least, greatest = picks_of_row(row, signs)
    return least[0]


def first_greatest(row, signs):
    """Tell the first way that has the greatest worth."""
    first, least, greatest = picks_of_row(row, signs)
    return way_at(row, signs, counts_up_to(signs, len(row)), greatest[1])


def first_least(row, signs):
    """Tell the first way that has the least worth."""
    first, least, greatest = picks_of_row(row, signs)
    return way_at(row, signs, counts_up_to(signs, len(row)), least[1])


def bounds_of(row, signs):
    """Tell the least and the greatest worth of each stretch of a row, a dict from the stretches."""
    need_row(row)
    need_signs(signs)
    picks = picks_by_stretch(row, signs)
    return {stretch: (least[0], greatest[0]) for stretch, (first, least, greatest) in picks.items()}


def picks_of_row(row, signs):
    """Refuse what is no row or no signs to put, and pick the ways of the whole row."""
    need_row(row)
    need_signs(signs)
    return picks_by_stretch(row, signs)[(0, len(row) - 1)]


def picks_by_stretch(row, signs, left_out=()):
    """Pick ways of each stretch as pick_three does, a dict from the stretches; none of what is left out."""
    counts = counts_up_to(signs, len(row))
    picks = {}
    for stretch in shorter_first(len(row)):
        first, last = stretch
        found = [(row[first], 0)] if first == last else join_picks(picks, joints_of(signs, counts, stretch))
        picks[stretch] = pick_three(found) if found and stretch not in left_out else ()
    return picks


def join_picks(picks, joints):
    """Join the picked ways of shorter stretches; each way is told as (worth, number).

    A sum or a difference is greatest, or least, of greatest and least parts alone, and so is a product other than 0.
    Where the greatest or the least product is 0, one part is 0. Either this is the greatest or the least of its
    stretch, and the other part may be any: then the first is due. Or the other stretch has no worth but 0, and both
    parts may be any. So the three that are picked of each stretch are enough.
    """
    return [
        (put_sign(left_worth, sign, right_worth), start + left_number * step + right_number)
        for before, sign, behind, start, step in joints
        for left_worth, left_number in picks[before]
        for right_worth, right_number in picks[behind]
    ]


def pick_three(found):
    """Pick of ways (worth, number) the first, the first with the least worth, the first with the greatest."""
    first = min(found, key=lambda way: way[1])
    greatest = min(found, key=lambda way: (-way[0], way[1]))
    return (first, min(found), greatest)
