"""A told worth, had with the fewest brackets."""

from putsigns.ordered import counts_up_to, joints_of, way_at
from putsigns.ways import brackets_around, need_at_most, need_row, need_signs, need_whole, shorter_first
from putsigns.worths import put_sign

MOST_TO_TELL = 6


def way_to(row, signs, number):
    """Tell the way with a told worth that has the fewest brackets, of several the first, or None."""
    best = best_with(row, signs, number)
    return None if best is None else way_at(row, signs, counts_up_to(signs, len(row)), best[1])


def fewest_brackets(row, signs, number):
    """Tell how many pairs of brackets are needed for a told worth, or None."""
    best = best_with(row, signs, number)
    return None if best is None else best[0]


def best_with(row, signs, number):
    """Find the best way with a told worth, a tuple (brackets, number of the way), or None; refuse what is due."""
    need_row(row)
    need_signs(signs)
    need_whole(number)
    need_at_most(row, MOST_TO_TELL)
    bests = best_ways(row, signs)
    return min([best for (worth, sign), best in bests.items() if worth == number], default=None)


def best_ways(row, signs):
    """Find the best ways of a row: a dict from (worth, own sign) to (brackets, number of the way).

    How many brackets stand around a way hangs on its own sign (an empty text of a number), so of each stretch a best
    way is kept for each worth and own sign.
    """
    counts = counts_up_to(signs, len(row))
    bests = {}
    for stretch in shorter_first(len(row)):
        first, last = stretch
        found = [((row[first], ""), (0, 0))] if first == last else join_bests(bests, joints_of(signs, counts, stretch))
        bests[stretch] = keep_best(found)
    return bests[(0, len(row) - 1)]


def join_bests(bests, joints):
    """Join the best ways of shorter stretches; each way is told as ((worth, own sign), (brackets, number))."""
    return [
        (
            (put_sign(left, sign, right), sign),
            (
                brackets_around(sign, left_sign, right_sign) + left_brackets + right_brackets,
                start + left_number * step + right_number,
            ),
        )
        for before, sign, behind, start, step in joints
        for (left, left_sign), (left_brackets, left_number) in bests[before].items()
        for (right, right_sign), (right_brackets, right_number) in bests[behind].items()
    ]


def keep_best(found):
    """Keep of the ways with one worth and own sign the one with the fewest brackets, of several the first."""
    kept = {}
    for key, best in found:
        kept[key] = min(kept.get(key, best), best)
    return kept
