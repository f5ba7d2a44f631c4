"""Legs, walks that are gone one behind another, each as often as one likes."""

from anyaround.blocks import as_sum, first_under, need_of_blocks, step_at, triple_of
from anyaround.checks import check_place, check_stock, is_list, is_number
from anyaround.refusals import BadLegs, BadNumber
from anyaround.webs import read_walk


def read_leg(web, place, thing):
    """A pair (walk, times) of tuples and a new list that is gone from a place; None for what is none."""
    if not is_list(thing) or len(thing) != 2 or not is_number(thing[1]):
        return None
    walk = read_walk(web, thing[0])
    if walk is None:
        return None
    if walk and (walk[0][0] != place or (thing[1] != 1 and walk[-1][1] != place)):
        return None
    return walk, thing[1]


def read_legs(web, place, thing):
    """A pair: the list of legs from a place, where they end; None for any object that is none."""
    if not is_list(thing):
        return None
    found = []
    for one in thing:
        leg = read_leg(web, place, one)
        if leg is None:
            return None
        found.append(leg)
        if leg[0]:
            place = leg[0][-1][1]
    return found, place


def checked_legs(web, place, thing):
    """The list of legs from a place."""
    check_place(web, place)
    found = read_legs(web, place, thing)
    if found is None:
        raise BadLegs(thing)
    return found[0]


def check_number(number):
    """Raise BadNumber for what is no number."""
    if not is_number(number):
        raise BadNumber(number)


def changes_of(legs):
    """The blocks of the changes of legs."""
    return [([step[4] for step in walk], times) for walk, times in legs]


def is_legs(web, place, thing):
    """Whether any object is legs from a place."""
    check_place(web, place)
    return read_legs(web, place, thing) is not None


def legs_sum(web, place, legs):
    """The triple (amounts, ticks, change) of all steps of legs together."""
    found = checked_legs(web, place, legs)
    return as_sum([[0, 0, 0, 0]] + [triple_of(walk, times) for walk, times in found])


def legs_need(web, place, legs):
    """The pair (need, gain) of legs."""
    return need_of_blocks(changes_of(checked_legs(web, place, legs)))


def legs_step(web, place, legs, number):
    """The step of legs with a number, from 0 on, None if they have no so many."""
    found = checked_legs(web, place, legs)
    check_number(number)
    return step_at(found, number)


def first_below(web, place, legs, stock):
    """The least number of steps behind which one who begins with a stock has less than 0, None if there is none."""
    found = checked_legs(web, place, legs)
    check_stock(stock)
    return first_under(changes_of(found), stock)
