"""Parts as each kind sees them: worths, forms, and parts beside one another."""

from anyaround.costpapers import are_costs_papers, costs_papers, costs_worse
from anyaround.errors import BadSurrounding, UnlikeDoors
from anyaround.forms import form_of, fresh
from anyaround.fronts import check_amounts
from anyaround.ratepapers import are_rates_papers, rates_papers, rates_worse
from anyaround.stockpapers import are_on_papers, are_through_papers, on_papers, on_worse, through_papers, through_worse
from anyaround.surroundings import check_kind, read_surrounding, without_below, worth_of


def check_part(part, kind):
    """Raise what is due of a kind, then of a part with this kind."""
    check_kind(kind)
    if without_below(kind):
        check_amounts(part)


def worth_in(part, kind, surrounding):
    """The worth of a part in a surrounding."""
    check_part(part, kind)
    found = read_surrounding(kind, len(part.ins()), len(part.outs()), surrounding)
    if found is None:
        raise BadSurrounding(surrounding)
    return worth_of(part, kind, found)


def form(part, kind):
    """The form of a part."""
    check_part(part, kind)
    return fresh(form_of(part, kind))


def forms_beside(one, other, kind):
    """The forms of two parts, behind all that is to be refused."""
    check_kind(kind)
    if len(one.ins()) != len(other.ins()) or len(one.outs()) != len(other.outs()):
        raise UnlikeDoors()
    check_part(one, kind)
    check_part(other, kind)
    return form_of(one, kind), form_of(other, kind)


def worse_by(kind, mine, theirs):
    """A surrounding in which what has the one form is worse than what has the other one, None if there is none."""
    if kind == "rates":
        return rates_worse(mine, theirs)
    if kind == "through":
        return through_worse(mine, theirs)
    if kind == "on":
        return on_worse(mine, theirs)
    return costs_worse(kind, mine, theirs)


def alike(one, other, kind):
    """Whether the forms of two parts are equal."""
    mine, theirs = forms_beside(one, other, kind)
    return mine == theirs


def apart(one, other, kind):
    """A surrounding in which the worths of two parts differ, None if they are alike."""
    mine, theirs = forms_beside(one, other, kind)
    if mine == theirs:
        return None
    found = worse_by(kind, mine, theirs)
    if found is None:
        found = worse_by(kind, theirs, mine)
    return found


def never_worse(one, other, kind):
    """Whether in no surrounding one has a worse worth than other."""
    mine, theirs = forms_beside(one, other, kind)
    return mine == theirs or worse_by(kind, mine, theirs) is None


def worse_in(one, other, kind):
    """A surrounding in which one has a worse worth than other, None if there is none."""
    mine, theirs = forms_beside(one, other, kind)
    return None if mine == theirs else worse_by(kind, mine, theirs)


def papers(one, other, kind):
    """What shows that one is never worse than other, None if it is not so."""
    mine, theirs = forms_beside(one, other, kind)
    if mine != theirs and worse_by(kind, mine, theirs) is not None:
        return None
    if kind == "rates":
        return rates_papers(mine, theirs)
    if kind == "through":
        return through_papers(mine, theirs)
    if kind == "on":
        return on_papers(mine, theirs)
    return costs_papers(kind, mine, theirs)


def are_papers(one, other, kind, thing):
    """Whether any object shows that one is never worse than other."""
    mine, theirs = forms_beside(one, other, kind)
    if kind == "rates":
        return are_rates_papers(mine, theirs, thing)
    if kind == "through":
        return are_through_papers(mine, theirs, thing)
    if kind == "on":
        return are_on_papers(mine, theirs, thing)
    return are_costs_papers(kind, mine, theirs, thing)
