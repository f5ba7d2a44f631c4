"""The forms of parts, of each kind. They are kept with the parts, and are no caller's to change."""

from anyaround.climbs import stairs_to
from anyaround.fronts import front_of, hull_of
from anyaround.passes import pass_rows
from anyaround.stocks import needs_on


def fresh(thing):
    """The same with lists and dicts that are new."""
    if isinstance(thing, list):
        return [fresh(one) for one in thing]
    if isinstance(thing, tuple):
        return tuple([fresh(one) for one in thing])
    if isinstance(thing, dict):
        return {key: thing[key] for key in thing}
    return thing


def stairs_between(part, i, j):
    """The stairs from in door i to out door j."""
    return stairs_to(part.web(), part.outs()[j]).get(part.ins()[i], [])


def stay_and_stairs(part, i):
    """What the kind "on" sees at an in door: with how much one can stay, and what one leaves with who has less."""
    stay = needs_on(part.web()).get(part.ins()[i])
    found = []
    for j in range(len(part.outs())):
        found.append([pair for pair in stairs_between(part, i, j) if stay is None or pair[0] < stay])
    return stay, found


def door_form(part, kind, i):
    """What the form of a part has of an in door."""
    if kind == "rates":
        return pass_rows(part, i)
    if kind == "on":
        return stay_and_stairs(part, i)
    outs = len(part.outs())
    if kind == "through":
        return [stairs_between(part, i, j) for j in range(outs)]
    fronts = [front_of(part, i, j) for j in range(outs)]
    return fronts if kind == "budgets" else [hull_of(front) for front in fronts]


def form_of(part, kind):
    """The form of a part, of a kind."""
    key = ("form", kind)
    if key not in part.known:
        part.known[key] = [door_form(part, kind, i) for i in range(len(part.ins()))]
    return part.known[key]


def passes_of(form, kind, i):
    """The list, by out doors, of what a form has of the passes from an in door."""
    if kind in ("rates", "on"):
        return form[i][1]
    return form[i]


def doors_of(form, kind):
    """How many in doors and out doors a form has."""
    return len(form), len(passes_of(form, kind, 0))
