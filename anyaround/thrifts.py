"""Thrift: how cheaply one goes for ever whose stock must never fall below 0."""

from anyaround.checks import (check_place, check_stock, checked_fraction, checked_prices, is_integer, is_list,
                              is_number, undivided)
from anyaround.climbs import stairs_to
from anyaround.rates import leads_to_integers
from anyaround.ringrows import line_within
from anyaround.searches import cheapest_ring, cost_of, row_along, sums_or_ring, weights_above
from anyaround.stairs import is_cover
from anyaround.stands import most_stocks
from anyaround.thriftrings import crossing, level_steps, losing, plenty_lots, rate_of, rings_of, worth_at


def is_less(one, other):
    """Whether a fraction is less than another one; None is more than all."""
    if one is None or other is None:
        return one is not None
    return one[0] * other[1] < other[0] * one[1]


def level_best(web, most, prices):
    """A pair: the least rate of rings of level steps, such a ring; or None, None."""
    steps = level_steps(web, most)
    found = (None, None)
    for place in sorted({step[0]: True for step in steps}):
        ring = cheapest_ring(steps, place, prices)
        if ring is not None:
            row = row_along(ring)
            rate = undivided((cost_of(prices, row), row[2]))
            if is_less(rate, found[0]):
                found = (rate, ring)
    return found


def lot_best(steps, prices):
    """A pair: what the cheapest mix of rings of a lot costs that loses nothing, and the pairs (ring, times) of it."""
    told = {changed: step for changed, step in zip(losing(steps, prices), steps)}
    line = line_within(list(told))
    numbers = crossing(line)
    if not numbers:
        return None, None
    pairs = rings_of(list(told), line, numbers)
    return rate_of(line, numbers), [([told[step] for step in ring], times) for ring, times in pairs]


def best_of(web, place, prices, stock):
    """A pair: thrift, and the list of pairs (ring, times) that does it; or None, None."""
    most = most_stocks(web.steps(), place, stock)
    rate, ring = level_best(web, most, prices)
    found = (rate, None if ring is None else [(ring, 1)])
    for _, steps in plenty_lots(web, most):
        best = lot_best(steps, prices)
        if is_less(best[0], found[0]):
            found = best
    return found


def checked_best(web, place, prices, stock):
    """The same as best_of, behind all that is to be refused."""
    check_place(web, place)
    pair = checked_prices(prices)
    check_stock(stock)
    return best_of(web, place, pair, stock)


def thrift(web, place, prices, stock):
    """The least that one can go on for, per tick, with a stock that never falls below 0; None if one can not."""
    return checked_best(web, place, prices, stock)[0]


def thrifty(web, place, prices, stock):
    """The list of one or two pairs (ring, times) that cost just thrift, None if one can not go on for ever."""
    return checked_best(web, place, prices, stock)[1]


def telling_needs(web, place):
    """The ascending list of the stocks at which one can come to more places, or to plenty at some."""
    found = {}
    for other in range(web.places()):
        pairs = stairs_to(web, other).get(place, [])
        if pairs:
            found[pairs[0][0]] = True
            if pairs[-1][1] is None:
                found[pairs[-1][0]] = True
    return sorted(found)


def thrift_stairs(web, place, prices):
    """The list of pairs (need, rate) from which thrift is told for each stock."""
    check_place(web, place)
    pair = checked_prices(prices)
    found = []
    for need in telling_needs(web, place):
        rate = best_of(web, place, pair, need)[0]
        if is_less(rate, found[-1][1] if found else None):
            found.append((need, rate))
    return found


def checked_for_paper(web, place, prices, stock, rate):
    """A pair: prices, and a rate in lowest terms, behind all that is to be refused."""
    check_place(web, place)
    pair = checked_prices(prices)
    check_stock(stock)
    return pair, checked_fraction(rate)


def lot_weights(steps, prices, rate, many, worth):
    """What steps of a lot cost above a rate, many times, less what they change, so much worth each."""
    return [many * weight - worth * step[4] for step, weight in zip(steps, weights_above(steps, prices, rate))]


def levels_for(web, most, prices, rate):
    """The levels of a paper, None if there are none."""
    steps = level_steps(web, most)
    starts = {place: 0 for place in most if most[place] is not None}
    return sums_or_ring(steps, weights_above(steps, prices, rate), starts)[0]


def lot_paper(lot, steps, prices, rate):
    """The triple (many, worth, heights) of a lot in a paper, None if there is none."""
    many, worth = worth_at(line_within(losing(steps, prices)), rate)
    weights = lot_weights(steps, prices, rate, many, worth)
    found, _ = sums_or_ring(steps, weights, {place: 0 for place in lot})
    return None if found is None else (many, worth, found)


def thrift_paper(web, place, prices, stock, rate):
    """What shows that thrift is not less than a rate, None if it is."""
    pair, bounds = checked_for_paper(web, place, prices, stock, rate)
    most = most_stocks(web.steps(), place, stock)
    levels = levels_for(web, most, pair, bounds)
    lots = {lot[0]: lot_paper(lot, steps, pair, bounds) for lot, steps in plenty_lots(web, most)}
    if levels is None or any([paper is None for paper in lots.values()]):
        return None
    return most, levels, lots


def are_heights(thing, places, steps, weights):
    """Whether any object is a dict from just these places to integers that no step of these raises by too much."""
    if not leads_to_integers(thing, places):
        return False
    return all([thing[step[1]] - thing[step[0]] <= weight for step, weight in zip(steps, weights)])


def is_lot_paper(lot, steps, prices, rate, thing):
    """Whether any object is what a paper has of a lot."""
    if not is_list(thing) or len(thing) != 3:
        return False
    many, worth, heights = thing
    if not is_integer(many) or many < 1 or not is_number(worth):
        return False
    return are_heights(heights, lot, steps, lot_weights(steps, prices, rate, many, worth))


def are_lot_papers(web, most, prices, rate, thing):
    """Whether any object is what a paper with a cover has of its lots."""
    lots = plenty_lots(web, most)
    if not isinstance(thing, dict) or len(thing) != len(lots) or not all([is_integer(key) for key in thing]):
        return False
    return all([lot[0] in thing and is_lot_paper(lot, steps, prices, rate, thing[lot[0]]) for lot, steps in lots])


def is_thrift_paper(web, place, prices, stock, rate, thing):
    """Whether any object shows that thrift is not less than a rate."""
    pair, bounds = checked_for_paper(web, place, prices, stock, rate)
    if not is_list(thing) or len(thing) != 3:
        return False
    most, levels, lots = thing
    if not is_cover(web, place, stock, most):
        return False
    steps = level_steps(web, most)
    places = [one for one in most if most[one] is not None]
    if not are_heights(levels, places, steps, weights_above(steps, pair, bounds)):
        return False
    return are_lot_papers(web, most, pair, bounds, lots)
