"""Contexts, fillers, wishes and rows of holes: what they are, and what is raised where they are something else."""

from anyaround.checks import is_integer, is_integers, is_list, is_number
from anyaround.errors import BadContext, BadFiller, BadRow, BadWish
from anyaround.fronts import check_amounts, read_bounds
from anyaround.parts import Part
from anyaround.surroundings import without_below


def is_part_with(thing, doors):
    """Whether any object is a part with so many in doors and out doors."""
    return isinstance(thing, Part) and len(thing.ins()) == doors and len(thing.outs()) == doors


def check_context(thing):
    """Raise BadContext for any object that is no context."""
    if not is_part_with(thing, 2):
        raise BadContext(thing)


def check_filler(thing):
    """Raise BadFiller for any object that is no filler."""
    if not is_part_with(thing, 1):
        raise BadFiller(thing)


def check_filler_of(kind, thing):
    """Raise what is due of a filler, for a kind."""
    check_filler(thing)
    if without_below(kind):
        check_amounts(thing)


def read_row(thing):
    """A triple of integers, the third one from 1 on, None for what is none."""
    return tuple(thing) if is_integers(thing, 3) and thing[2] >= 1 else None


def read_numbers(thing):
    """A pair of numbers, None for what is none."""
    return tuple(thing) if is_integers(thing, 2) and min(thing) >= 0 else None


def read_climb(kind, thing):
    """A pair (need, gain), None for what is none; of "through" the gain may be None."""
    if not is_list(thing) or len(thing) != 2 or not is_number(thing[0]):
        return None
    if thing[1] is None:
        return tuple(thing) if kind == "through" else None
    return tuple(thing) if is_integer(thing[1]) and thing[0] + thing[1] >= 0 else None


def checked_wish(kind, wish):
    """A wish of a kind, of tuples."""
    if kind == "on":
        found = wish if is_number(wish) else None
    elif kind == "rates":
        found = read_row(wish)
    elif kind == "budgets":
        found = read_bounds(wish)
    else:
        found = read_numbers(wish)
    if found is None:
        raise BadWish(wish)
    return found


def checked_filling(kind, row):
    """The row of a filler that has no ring and one pass, of tuples."""
    if kind == "rates":
        found = read_row(row)
    elif kind in ("through", "on"):
        found = read_climb(kind, row)
    else:
        found = read_numbers(row)
    if found is None:
        raise BadRow(row)
    return found
