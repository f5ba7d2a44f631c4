"""The least rates of rings at prices, and the heights that show them."""

from anyaround.checks import check_place, checked_fraction, checked_prices, is_integer, undivided
from anyaround.searches import cheapest_ring, cost_of, least_sums, row_along, weights_above
from anyaround.webs import reached


def rate_at(web, place, prices):
    """The least rate of the rings that one can come to from a place, None if there are none."""
    ring = best_ring(web, place, prices)
    if ring is None:
        return None
    row = row_along(ring)
    return undivided((cost_of(prices, row), row[2]))


def best_ring(web, place, prices):
    """A ring with the least rate that one can come to from a place, None if there is none."""
    check_place(web, place)
    return cheapest_ring(web.steps(), place, checked_prices(prices))


def heights_or_ring(web, place, prices, rate):
    """A pair: heights, or None; None, or a ring whose rate is less."""
    check_place(web, place)
    pair = checked_prices(prices)
    steps = web.steps()
    return least_sums(steps, weights_above(steps, pair, checked_fraction(rate)), place)


def heights(web, place, prices, rate):
    """Heights of a place for prices and a rate, None if there are none."""
    found, _ = heights_or_ring(web, place, prices, rate)
    return found


def ring_below(web, place, prices, rate):
    """A ring that one can come to whose rate is less than rate, None if there is none."""
    _, ring = heights_or_ring(web, place, prices, rate)
    return ring


def leads_to_integers(thing, places):
    """Whether any object is a dict from just these places to integers."""
    if not isinstance(thing, dict) or len(thing) != len(places):
        return False
    if not all([is_integer(key) for key in thing]):
        return False
    return all([place in thing and is_integer(thing[place]) for place in places])


def is_heights(web, place, prices, rate, thing):
    """Whether any object is heights of a place for prices and a rate."""
    places = reached(web, place)
    pair = checked_prices(prices)
    bounds = checked_fraction(rate)
    if not leads_to_integers(thing, places):
        return False
    steps = [step for step in web.steps() if step[0] in thing]
    weights = weights_above(steps, pair, bounds)
    return all([thing[step[1]] - thing[step[0]] <= weight for step, weight in zip(steps, weights)])


def credit(web, place, prices):
    """The least fraction by which a walk can ever be below the least rate, None if there is no ring."""
    rate = rate_at(web, place, prices)
    if rate is None:
        return None
    # At the least rate no ring is below, so there are heights, and [] makes the least of them 0 at most.
    least = min(list(heights(web, place, prices, rate).values()))
    return undivided((0 - least, rate[1]))
