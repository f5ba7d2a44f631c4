"""Forms put together as parts are, and worths by forms."""

from anyaround.checks import is_list
from anyaround.errors import BadForms, BadSurrounding
from anyaround.formparts import checked_form, part_of, read_form
from anyaround.forms import doors_of, form_of, fresh
from anyaround.netlists import read_net
from anyaround.nets import whole_of
from anyaround.surroundings import check_kind, read_surrounding, worth_of


def checked_forms(things, kind):
    """One form or more of a kind, of new lists and tuples."""
    if not is_list(things) or not things:
        raise BadForms(0)
    found = []
    for index, thing in enumerate(things):
        read = read_form(thing, kind)
        if read is None:
            raise BadForms(index)
        found.append(read)
    return found


def put_together(forms, kind, links, ins, outs):
    """The form of the whole that is made of parts with these forms."""
    check_kind(kind)
    found = checked_forms(forms, kind)
    doors = [doors_of(one, kind) for one in found]
    net = read_net([many for many, _ in doors], [many for _, many in doors], links, ins, outs)
    parts = [part_of(one, kind) for one in found]
    return fresh(form_of(whole_of(parts, *net), kind))


def worth_by(form, kind, surrounding):
    """The worth in a surrounding of each part that has a form."""
    check_kind(kind)
    found = checked_form(form, kind)
    ins, outs = doors_of(found, kind)
    read = read_surrounding(kind, ins, outs, surrounding)
    if read is None:
        raise BadSurrounding(surrounding)
    return worth_of(part_of(found, kind), kind, read)
