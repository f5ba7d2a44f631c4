"""Which kinds see more than others."""

from anyaround.checks import is_list
from anyaround.errors import BadForm, Unseen
from anyaround.formparts import checked_form
from anyaround.forms import passes_of
from anyaround.fronts import first_below, hull_of
from anyaround.kinds import alike
from anyaround.parts import Part
from anyaround.surroundings import check_kind, without_below

# What two parts differ in that are alike by the one kind and not by the other one.
DIFFERENCES = {
    ("rates", "through"): "change", ("rates", "on"): "change", ("rates", "budgets"): "midst",
    ("through", "rates"): "amount", ("through", "on"): "ring", ("through", "budgets"): "amount",
    ("through", "prices"): "amount", ("on", "rates"): "amount", ("on", "through"): "leaving",
    ("on", "budgets"): "amount", ("on", "prices"): "amount", ("budgets", "rates"): "ticks",
    ("budgets", "through"): "change", ("budgets", "on"): "change", ("prices", "rates"): "ticks",
    ("prices", "through"): "change", ("prices", "on"): "change", ("prices", "budgets"): "midst"}
RING = (0, 0, (0, 0), 1, 0)
STEP = (0, 1, (0, 0), 1, 0)
GAINING = (0, 1, (0, 0), 1, 1)
SIDES = ((0, 1, (0, 2), 1, 0), (0, 1, (2, 0), 1, 0))


def check_kinds(kind, other):
    """Raise BadKind for the first of both that is no kind."""
    check_kind(kind)
    check_kind(other)


def sees(kind, other):
    """Whether parts that are alike by a kind are alike by another one."""
    check_kinds(kind, other)
    return kind == other or (other == "prices" and kind in ("rates", "budgets"))


def steps_that_differ(difference):
    """The steps of two parts that differ in just this."""
    if difference == "midst":
        return list(SIDES), list(SIDES) + [(0, 1, (1, 1), 1, 0)]
    if difference == "ring":
        return [STEP], [STEP, RING]
    if difference == "leaving":
        return [RING, STEP], [RING, GAINING]
    if difference == "change":
        return [STEP], [GAINING]
    return [STEP], [(0, 1, (0, 0), 2, 0) if difference == "ticks" else (0, 1, (1, 0), 1, 0)]


def pair_unseen(kind, other):
    """Two parts that are alike by a kind and not by another one, None if there are none."""
    if sees(kind, other):
        return None
    mine, theirs = steps_that_differ(DIFFERENCES[(kind, other)])
    return Part(2, mine, [0], [1]), Part(2, theirs, [0], [1])


def are_taken(one, other, kind):
    """Whether two parts are taken by a kind beside one another."""
    if len(one.ins()) != len(other.ins()) or len(one.outs()) != len(other.outs()):
        return False
    return not without_below(kind) or (first_below(one) is None and first_below(other) is None)


def is_unseen(kind, other, thing):
    """Whether any object is a pair of parts that are alike by a kind and not by another one."""
    check_kinds(kind, other)
    if not is_list(thing) or len(thing) != 2 or not all([isinstance(part, Part) for part in thing]):
        return False
    one, more = thing
    if not are_taken(one, more, kind) or not are_taken(one, more, other):
        return False
    return alike(one, more, kind) and not alike(one, more, other)


def has_below(form, kind):
    """Whether a form has an amount below 0, in rows or passes."""
    for door in range(len(form)):
        rows = form[door][0] if kind == "rates" else []
        found = list(rows) + [row for passes in passes_of(form, kind, door) for row in passes]
        if any([min(row[0], row[1]) < 0 for row in found]):
            return True
    return False


def seen_form(form, kind, other):
    """The form, by another kind, of each part that has a form by a kind that sees it."""
    if not sees(kind, other):
        raise Unseen()
    found = checked_form(form, kind)
    if other == "prices" and has_below(found, kind):
        raise BadForm(form)
    if kind == other:
        return found
    seen = []
    for door in range(len(found)):
        pairs = [[(row[0], row[1]) for row in rows] for rows in passes_of(found, kind, door)]
        seen.append([hull_of(list({pair: True for pair in rows})) for rows in pairs])
    return seen
