"""The forms of a row with signs to put, in their order: counted, by their numbers, numbered, and their ways."""

from putsigns.errors import NoForm, NoNumber
from putsigns.forms import numbers_in, parts_of, put_parts
from putsigns.ways import cuts_of, is_sign, is_whole, need_many, need_row, need_signs, shorter_first

# In their order; what stands straight within a form of the one kind is a number or of the other.
KINDS = ("sum", "times")
WITHIN = {"sum": "times", "times": "sum"}
# From the third part on, all places are alike.
LATER = 2


def how_many_forms(signs, many):
    """Tell how many forms rows of so many numbers have with signs to put."""
    need_signs(signs)
    need_many(many)
    return count_forms(count_ends(signs, many), many)


def nth_form(row, signs, number):
    """Tell the form of a row with signs to put that has a number, from 0 on."""
    need_row(row)
    need_signs(signs)
    ends = count_ends(signs, len(row))
    if not is_whole(number) or not 0 <= number < count_forms(ends, len(row)):
        raise NoNumber("no form has this number")
    sums = ends[("sum", 0, len(row))]
    if number < sums:
        return form_at(row, signs, ends, "sum", number)
    return form_at(row, signs, ends, "times", number - sums)


def number_of_form(row, signs, form):
    """Tell the number of a form among the forms of a row with signs to put."""
    need_form(row, signs, form)
    if is_whole(form):
        return 0
    ends = count_ends(signs, len(row))
    ahead = 0 if form[0] == "sum" else ends[("sum", 0, len(row))]
    return ahead + number_at(form, signs, ends)


def first_way(row, signs, form):
    """Tell the first way of a row with signs to put that has a form."""
    need_form(row, signs, form)
    return find_first(form, signs)


def how_many_twins(row, signs, form):
    """Tell how many ways of a row with signs to put have a form."""
    need_form(row, signs, form)
    return count_twins(form, signs)


def need_form(row, signs, thing):
    """Refuse what is no row, no signs to put, or none of the forms of the row with these."""
    need_row(row)
    need_signs(signs)
    if not is_form(thing, KINDS, signs, len(row)) or numbers_in(thing) != row:
        raise NoForm("this is no form of the row with these signs to put")


def is_form(thing, kinds, signs, room):
    """Tell of anything whether it is a number, or a form of these kinds with signs to put, of at most room numbers."""
    if is_whole(thing):
        return True
    if not isinstance(thing, tuple) or len(thing) != 2:
        return False
    kind, parts = thing
    if not isinstance(kind, str) or kind not in kinds or not isinstance(parts, tuple) or not 2 <= len(parts) <= room:
        return False
    if kind == "sum" and not all([isinstance(part, tuple) and len(part) == 2 for part in parts]):
        return False
    # Each other part has one number at least: so the room shrinks, and this ends soon, however deep the thing is.
    room_within = room - len(parts) + 1
    return all([
        is_sign(head) and head in heads_at(kind, place, signs) and is_form(part, (WITHIN[kind],), signs, room_within)
        for place, (head, part) in enumerate(parts_of(thing))
    ])


def heads_at(kind, place, signs):
    """Tell the heads that parts at a place, from 0, may have with signs to put, a text in their order.

    Without `+` the second term has `-`, whatever the brackets. Behind it, brackets turn `-` into `+` as one likes.
    """
    if kind == "times":
        return "*" if "*" in signs else ""
    if place == 0:
        return "+"
    if place == 1 or "-" not in signs:
        return signs.replace("*", "")
    return "+-"


def count_ends(signs, many):
    """Count how forms may end: a dict from (kind, place, left) to how many ends there are.

    An end is the parts from a place on (0, 1, or LATER for all behind), that have so many numbers left; from the place
    0 on it is a whole form.
    """
    ends = {(kind, LATER, 0): 1 for kind in KINDS}
    for left in range(1, many + 1):
        # Whole forms go first: those of the one kind are parts in the ends of the other.
        for place in (0, 1, LATER):
            for kind in KINDS:
                choices = choices_at(signs, ends, kind, place, left)
                ends[(kind, place, left)] = sum([forms * rests for head, many_in, forms, rests in choices])
    return ends


def choices_at(signs, ends, kind, place, left):
    """List the choices of a part at a place, with so many numbers left, in their order.

    Each is a tuple (head, how many numbers the part has, how many forms it may have, how many ends may stand behind).
    """
    # A form has two parts at least, so the first one leaves some numbers.
    most = left - 1 if place == 0 else left
    behind = min(place + 1, LATER)
    return [
        (head, many, count_parts(ends, kind, many), ends[(kind, behind, left - many)])
        for head in heads_at(kind, place, signs)
        for many in range(1, most + 1)
    ]


def count_parts(ends, kind, many):
    """Count the forms that parts of so many numbers may have straight within a kind."""
    return 1 if many == 1 else ends[(WITHIN[kind], 0, many)]


def count_forms(ends, many):
    """Count all forms of so many numbers."""
    return 1 if many == 1 else sum([ends[(kind, 0, many)] for kind in KINDS])


def form_at(row, signs, ends, kind, number):
    """Find the form of a kind with a number that is known to be one of this kind's; a lone number is its own form."""
    if len(row) == 1:
        return row[0]
    parts = []
    start = 0
    while start < len(row):
        place = min(len(parts), LATER)
        choices = choices_at(signs, ends, kind, place, len(row) - start)
        head, many, part_number, number = pick_choice(choices, number)
        parts.append((head, form_at(row[start:start + many], signs, ends, WITHIN[kind], part_number)))
        start += many
    return put_parts(kind, parts)


def pick_choice(choices, number):
    """Pick the choice in which a number falls: (head, many, number of the part's form, number of the end behind)."""
    at = 0
    while number >= choices[at][2] * choices[at][3]:
        number -= choices[at][2] * choices[at][3]
        at += 1
    head, many, forms, rests = choices[at]
    return (head, many, number // rests, number % rests)


def number_at(form, signs, ends):
    """Number what is known to be a form among those of its kind."""
    if is_whole(form):
        return 0
    left = len(numbers_in(form))
    number = 0
    for at, (head, part) in enumerate(parts_of(form)):
        many = len(numbers_in(part))
        choices = choices_at(signs, ends, form[0], min(at, LATER), left)
        number += number_ahead(choices, head, many, number_at(part, signs, ends))
        left -= many
    return number


def number_ahead(choices, head, many, part_number):
    """Count what goes ahead of the choice with this head, so many numbers and the form with this number."""
    ahead = 0
    for other_head, other_many, forms, rests in choices:
        if (other_head, other_many) == (head, many):
            return ahead + part_number * rests
        ahead += forms * rests
    return ahead


def joint_sign(left_head, right_head):
    """Tell the sign that joins two ways of parts that follow one another, by the heads of their first parts."""
    if left_head == "*":
        return "*"
    return "+" if left_head == right_head else "-"


def joints_within(parts, signs, stretch):
    """List how the ways of some parts of a form may be joined: tuples (before, sign, behind), in their order."""
    joints = []
    for before, behind in cuts_of(stretch):
        sign = joint_sign(parts[before[0]][0], parts[behind[0]][0])
        if sign in signs:
            joints.append((before, sign, behind))
    return joints


def find_first(form, signs):
    """Find the first way that has what is known to be a form."""
    if is_whole(form):
        return form
    parts = parts_of(form)
    firsts = {}
    for stretch in shorter_first(len(parts)):
        first, last = stretch
        if first == last:
            firsts[stretch] = find_first(parts[first][1], signs)
        else:
            firsts[stretch] = join_first(firsts, joints_within(parts, signs, stretch))
    return firsts[(0, len(parts) - 1)]


def join_first(firsts, joints):
    """Join the first ways of shorter stretches of parts at the first joint where both have one, or tell None."""
    for before, sign, behind in joints:
        if firsts[before] is not None and firsts[behind] is not None:
            return (sign, firsts[before], firsts[behind])
    return None


def count_twins(form, signs):
    """Count the ways that have what is known to be a form."""
    if is_whole(form):
        return 1
    parts = parts_of(form)
    twins = {}
    for stretch in shorter_first(len(parts)):
        first, last = stretch
        if first == last:
            twins[stretch] = count_twins(parts[first][1], signs)
        else:
            joints = joints_within(parts, signs, stretch)
            twins[stretch] = sum([twins[before] * twins[behind] for before, sign, behind in joints])
    return twins[(0, len(parts) - 1)]
