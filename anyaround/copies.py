"""Forms of many parts, each behind the one ahead."""

from anyaround.chains import many_times, out_of_many, stairs_behind, stays_behind, times_gone
from anyaround.checks import check_stock, is_integer
from anyaround.errors import BadForm, BadKind, BadMany
from anyaround.formparts import checked_form
from anyaround.forms import doors_of
from anyaround.surroundings import check_kind


def checked_single(thing, kind):
    """A form of one in door and one out door, of new lists and tuples."""
    found = checked_form(thing, kind)
    if doors_of(found, kind) != (1, 1):
        raise BadForm(thing)
    return found


def check_many(many):
    """Raise BadMany for what is no integer from 1 on."""
    if not is_integer(many) or many < 1:
        raise BadMany(many)


def each_times(rows, many):
    """Rows, each taken so many times."""
    return [tuple([number * many for number in row]) for row in rows]


def often(form, kind, many):
    """The form of so many parts with a form, each behind the one ahead."""
    check_kind(kind)
    if kind == "budgets":
        raise BadKind(kind)
    found = checked_single(form, kind)
    check_many(many)
    if kind == "through":
        return [[many_times(found[0][0], many, stairs_behind)]]
    if kind == "prices":
        return [[each_times(found[0][0], many)]]
    first, passes = found[0]
    if kind == "rates":
        return [(first, [each_times(passes[0], many)])]
    stay, pairs = many_times((first, passes[0]), many, stays_behind)
    return [(stay, [pairs])]


def often_out(form, many, stock):
    """The greatest stock with which one leaves the last of so many parts, None for no greatest, -1 if one can not."""
    found = checked_single(form, "through")
    check_many(many)
    check_stock(stock)
    return out_of_many(found[0][0], many, stock)


def how_often(form, stock):
    """The greatest number of such parts that one can come through, None if any number of them."""
    found = checked_single(form, "through")
    check_stock(stock)
    return times_gone(found[0][0], stock)
