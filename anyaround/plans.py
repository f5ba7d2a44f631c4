"""Plans, legs and behind them a walk that is gone for ever."""

from anyaround.blocks import first_under, need_of_blocks, sum_of_first
from anyaround.checks import check_place, checked_fraction, checked_prices, is_list, undivided
from anyaround.legs import changes_of, check_number, read_legs
from anyaround.refusals import BadPlan
from anyaround.searches import row_along, weights_above
from anyaround.webs import read_walk


def read_plan(web, place, thing):
    """The blocks of steps of a plan from a place, the last one for ever; None for any object that is none."""
    if not is_list(thing) or len(thing) != 2:
        return None
    legs = read_legs(web, place, thing[0])
    if legs is None:
        return None
    found, end = legs
    walk = read_walk(web, thing[1])
    if not walk or walk[0][0] != end or walk[-1][1] != end:
        return None
    return found + [(walk, None)]


def checked_plan(web, place, thing):
    """The blocks of steps of a plan from a place."""
    check_place(web, place)
    found = read_plan(web, place, thing)
    if found is None:
        raise BadPlan(thing)
    return found


def costs_above(blocks, prices, rate):
    """The blocks of what steps cost above a rate, as often as the bottom of the rate tells."""
    return [(weights_above(steps, prices, rate), times) for steps, times in blocks]


def is_plan(web, place, thing):
    """Whether any object is a plan from a place."""
    check_place(web, place)
    return read_plan(web, place, thing) is not None


def plan_sum(web, place, plan, number):
    """The triple (amounts, ticks, change) of the first so many steps of a plan."""
    blocks = checked_plan(web, place, plan)
    check_number(number)
    return sum_of_first(blocks, number)


def plan_rates(web, place, plan):
    """The pair of fractions at which the amounts of a plan per tick settle."""
    first, second, ticks = row_along(checked_plan(web, place, plan)[-1][0])
    return undivided((first, ticks)), undivided((second, ticks))


def plan_need(web, place, plan):
    """The least stock with which a plan can be gone for ever, None if there is none."""
    return need_of_blocks(changes_of(checked_plan(web, place, plan)))[0]


def plan_credit(web, place, plan, prices, rate):
    """The least fraction by which a plan is ever below a rate, None if there is none."""
    blocks = checked_plan(web, place, plan)
    pair = checked_prices(prices)
    bounds = checked_fraction(rate)
    need, _ = need_of_blocks(costs_above(blocks, pair, bounds))
    return None if need is None else undivided((need, bounds[1]))


def first_short(web, place, plan, prices, rate, credit):
    """The least number of steps behind which a plan is below a rate by more than a credit, None if there is none."""
    blocks = checked_plan(web, place, plan)
    pair = checked_prices(prices)
    bounds = checked_fraction(rate)
    top, bottom = checked_fraction(credit)
    changes = [([bottom * weight for weight in weights], times) for weights, times in costs_above(blocks, pair, bounds)]
    return first_under(changes, top * bounds[1])
