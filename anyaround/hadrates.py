"""Pairs of rates that can be had for ever, and the prices that show that some can not."""

from anyaround.checks import check_place, is_list, read_fraction
from anyaround.errors import BadBudget
from anyaround.hulls import mix_upto, prices_above
from anyaround.ringrows import lot_line, lots_ahead


def checked_budget(budget):
    """The two bounds of a budget of rates, each in lowest terms or None."""
    if not is_list(budget) or len(budget) != 2:
        raise BadBudget(budget)
    bounds = [read_fraction(thing) for thing in budget]
    for thing, bound in zip(budget, bounds):
        if thing is not None and bound is None:
            raise BadBudget(budget)
    return bounds


def bounding_point(line, bounds):
    """The point of a budget; where this bounds nothing, a bound that each row of the line keeps."""
    filled = []
    for which, bound in enumerate(bounds):
        if bound is None:
            filled.append((max([abs(row[which]) for row in line]), 1))
        else:
            filled.append(bound)
    (first, one), (second, other) = filled
    return first * other, second * one, one * other


def mix_within(web, place, budget):
    """A lot that is reached and a mix of rows of its rings within a budget, None if there is none."""
    check_place(web, place)
    bounds = checked_budget(budget)
    for lot, steps in lots_ahead(web, place):
        line = lot_line(web, lot, steps)
        mix = mix_upto(line, bounding_point(line, bounds))
        if mix is not None:
            return list(lot), mix
    return None


def prices_over(web, place, budget):
    """Rim prices for each lot that is reached at which its rows cost more than a budget, None if some lot has none."""
    check_place(web, place)
    bounds = checked_budget(budget)
    found = {}
    for lot, steps in lots_ahead(web, place):
        line = lot_line(web, lot, steps)
        prices = prices_above(line, bounding_point(line, bounds))
        if prices is None:
            return None
        found[lot[0]] = prices
    return found
