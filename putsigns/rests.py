"""The rests of worths by a number m: how many ways leave them, and papers that show which rests are never left."""

from putsigns.errors import NoNumber
from putsigns.every import count_stretch
from putsigns.ordered import counts_up_to, joints_of, way_at
from putsigns.told import keep_best
from putsigns.ways import cuts_of, has_all_stretches, is_whole, need_row, need_signs, need_whole, shorter_first
from putsigns.worths import put_sign

LEAST_M = 2
MOST_M = 60


def rest_counts(row, signs, m):
    """Tell how many ways of a row with signs to put leave each rest by m, a list from the rest 0 on."""
    need_row(row)
    need_signs(signs)
    need_m(m)
    counted = count_by_rest(row, signs, m)
    return [counted.get(rest, 0) for rest in range(m)]


def way_to_rest(row, signs, m, rest):
    """Tell the first way that leaves a rest by m, or None."""
    need_row(row)
    need_signs(signs)
    need_m(m)
    if not is_rest(rest, m):
        raise NoNumber("this is no rest by the number")
    number = firsts_by_rest(row, signs, m).get(rest)
    return None if number is None else way_at(row, signs, counts_up_to(signs, len(row)), number)


def rests_say(row, signs, thing):
    """Tell what a thing says as a paper of rests, a list, or None where it is not let by."""
    need_row(row)
    need_signs(signs)
    if not is_paper(thing, len(row)):
        return None
    m, lists = thing
    if not all([has_due_rests(row, signs, m, lists, stretch) for stretch in shorter_first(len(row))]):
        return None
    return list(lists[(0, len(row) - 1)])


def rests_paper(row, signs, m):
    """Tell the paper for m with the fewest rests of those that are let by, a tuple (m, lists)."""
    need_row(row)
    need_signs(signs)
    need_m(m)
    return (m, fewest_lists(row, signs, m))


def never_paper(row, signs, number):
    """Tell the paper for the least m that shows that a worth can't be had, or None where there is none."""
    need_row(row)
    need_signs(signs)
    need_whole(number)
    for m in range(LEAST_M, MOST_M + 1):
        lists = fewest_lists(row, signs, m)
        if number % m not in lists[(0, len(row) - 1)]:
            return (m, lists)
    return None


def is_m(thing):
    """Tell of anything whether it is a number from 2 to sixty."""
    return is_whole(thing) and LEAST_M <= thing <= MOST_M


def is_rest(thing, m):
    """Tell of anything whether it is a rest by m."""
    return is_whole(thing) and 0 <= thing < m


def need_m(thing):
    """Refuse what is no number from 2 to sixty."""
    if not is_m(thing):
        raise NoNumber("rests are told by numbers from 2 to sixty")


def count_by_rest(row, signs, m):
    """Count how many ways of a row leave each rest by m, a dict from the rests."""
    counted = {}
    for stretch in shorter_first(len(row)):
        first, last = stretch
        by_worth = {row[first]: 1} if first == last else count_stretch(counted, signs, stretch)
        # Rests are joined as worths are, and leave the rests that these would.
        counted[stretch] = fold_by_rest(by_worth, m)
    return counted[(0, len(row) - 1)]


def fold_by_rest(by_worth, m):
    """Add up what is counted by worths for each rest by m."""
    folded = {}
    for worth, many in by_worth.items():
        folded[worth % m] = folded.get(worth % m, 0) + many
    return folded


def firsts_by_rest(row, signs, m):
    """Find the numbers of the first ways of a row that leave each rest by m, a dict from the rests."""
    counts = counts_up_to(signs, len(row))
    firsts = {}
    for stretch in shorter_first(len(row)):
        first, last = stretch
        if first == last:
            firsts[stretch] = {row[first] % m: 0}
        else:
            firsts[stretch] = join_firsts(firsts, joints_of(signs, counts, stretch), m)
    return firsts[(0, len(row) - 1)]


def join_firsts(firsts, joints, m):
    """Join the first ways of shorter stretches; the joints are in the order of their ways."""
    found = {}
    for before, sign, behind, start, step in joints:
        # All rests are found, and no way of a later joint goes ahead.
        if len(found) == m:
            break
        here = keep_best([
            (put_sign(left, sign, right) % m, start + left_number * step + right_number)
            for left, left_number in firsts[before].items()
            for right, right_number in firsts[behind].items()
        ])
        here.update(found)
        found = here
    return found


def is_paper(thing, many):
    """Tell of anything whether it is a paper of rests for so many numbers."""
    if not isinstance(thing, tuple) or len(thing) != 2:
        return False
    m, lists = thing
    if not is_m(m) or not has_all_stretches(lists, many):
        return False
    return all([is_list_of_rests(rests, m) for rests in lists.values()])


def is_list_of_rests(thing, m):
    """Tell of anything whether it is a list of rests by m, rising, each once."""
    if not isinstance(thing, list) or not all([is_rest(rest, m) for rest in thing]):
        return False
    return all([lower < upper for lower, upper in zip(thing, thing[1:])])


def has_due_rests(row, signs, m, lists, stretch):
    """Tell whether the list of a stretch has all rests that are due."""
    return all([rest in lists[stretch] for rest in due_rests(row, signs, m, lists, stretch)])


def fewest_lists(row, signs, m):
    """Make the lists of a paper for m that have just the rests that are due, a dict from the stretches."""
    lists = {}
    for stretch in shorter_first(len(row)):
        lists[stretch] = due_rests(row, signs, m, lists, stretch)
    return lists


def due_rests(row, signs, m, lists, stretch):
    """List the rests, sorted, of a number, or of what comes of the lists of shorter stretches."""
    if stretch[0] == stretch[1]:
        return [row[stretch[0]] % m]
    due = {}
    for before, behind in cuts_of(stretch):
        for sign in signs:
            # Where all rests are there no other can come: this spares most of the work for a great m.
            if len(due) < m:
                due.update({
                    put_sign(left, sign, right) % m: True for left in lists[before] for right in lists[behind]
                })
    return sorted(due)
