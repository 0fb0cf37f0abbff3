"""Papers of bounds: by the stretches of a row they show that no way is greater, and none less."""

from putsigns.bounds import bounds_of
from putsigns.ordered import has_signs_among
from putsigns.ways import cuts_of, has_all_stretches, is_pair, is_way, list_numbers, need_row, need_signs, shorter_first
from putsigns.worths import find_worth, put_sign


def bounds_say(row, signs, thing):
    """Tell what a thing says as a paper of bounds, a tuple (low, high), or None where it is not let by."""
    need_row(row)
    need_signs(signs)
    if not has_all_stretches(thing, len(row)) or not all([is_pair(ends) for ends in thing.values()]):
        return None
    if not all([is_within(row, signs, thing, stretch) for stretch in shorter_first(len(row))]):
        return None
    return thing[(0, len(row) - 1)]


def bounds_paper(row, signs):
    """Tell the paper with the greatest lows and the least highs, a dict."""
    return bounds_of(row, signs)


def greatest_shown(row, signs, way, thing):
    """Tell whether a way and a paper show that the way is the greatest."""
    said = bounds_say(row, signs, thing)
    return said is not None and is_way_with(row, signs, way) and find_worth(way) == said[1]


def least_shown(row, signs, way, thing):
    """Tell whether a way and a paper show that the way is the least."""
    said = bounds_say(row, signs, thing)
    return said is not None and is_way_with(row, signs, way) and find_worth(way) == said[0]


def is_within(row, signs, paper, stretch):
    """Tell whether the ends of a stretch keep to the number there, or to what comes of shorter stretches."""
    low, high = paper[stretch]
    first, last = stretch
    worths = [row[first]] if first == last else join_ends(paper, signs, stretch)
    return low <= min(worths) and max(worths) <= high


def join_ends(paper, signs, stretch):
    """List the worths that come of the ends of the two stretches of each cut, and each sign."""
    return [
        put_sign(left, sign, right)
        for before, behind in cuts_of(stretch)
        for sign in signs
        for left in paper[before]
        for right in paper[behind]
    ]


def is_way_with(row, signs, thing):
    """Tell of anything whether it is a way of the row with these signs to put."""
    return is_way(thing) and list_numbers(thing) == row and has_signs_among(thing, signs)
