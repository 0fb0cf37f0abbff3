"""The plain forms of ways: ways that have one form are twins."""

from putsigns.ways import is_whole, need_way

TURNED = {"+": "-", "-": "+"}


def form_of(way):
    """Tell the plain form of a way."""
    need_way(way)
    return find_form(way)


def are_twins(one, other):
    """Tell whether two ways are twins."""
    need_way(one)
    need_way(other)
    return find_form(one) == find_form(other)


def find_form(way):
    """Find the form of what is known to be a way."""
    if is_whole(way):
        return way
    sign, left, right = way
    left_form = find_form(left)
    right_form = find_form(right)
    if sign == "*":
        return ("times", factors_in(left_form) + factors_in(right_form))
    behind = terms_in(right_form)
    if sign == "-":
        behind = tuple([(TURNED[head], part) for head, part in behind])
    return ("sum", terms_in(left_form) + behind)


def is_kind(form, kind):
    """Tell whether what is known to be a form is of a kind, "sum" or "times"."""
    return not is_whole(form) and form[0] == kind


def terms_in(form):
    """Tell the terms that a form brings into a sum."""
    return form[1] if is_kind(form, "sum") else (("+", form),)


def factors_in(form):
    """Tell the factors that a form brings into a product."""
    return form[1] if is_kind(form, "times") else (form,)


def parts_of(form):
    """List the parts of a sum or a product as tuples (head, form): the head is a term's sign, or `*` of a factor."""
    kind, parts = form
    return list(parts) if kind == "sum" else [("*", factor) for factor in parts]


def put_parts(kind, parts):
    """Put parts, as parts_of lists them, together to a form of a kind."""
    return (kind, tuple(parts) if kind == "sum" else tuple([factor for head, factor in parts]))


def numbers_in(form):
    """List the numbers of what is known to be a form."""
    if is_whole(form):
        return [form]
    numbers = []
    for head, part in parts_of(form):
        numbers += numbers_in(part)
    return numbers
