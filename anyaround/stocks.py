"""Stocks: what walks need, and with how much one can go on for ever."""

from anyaround.checks import check_place, check_stock, is_integer, is_number
from anyaround.climbs import need_and_gain
from anyaround.ringrows import lots_known
from anyaround.searches import leaving
from anyaround.stands import longest_layers, most_stocks, walk_to
from anyaround.webs import checked_walk


def need_of(web, walk):
    """The pair (need, gain) of a walk."""
    return need_and_gain(checked_walk(web, walk))


def comes_back(steps, place):
    """Whether one can come back, by a step or more, to a place which one left with nothing."""
    most = most_stocks(steps, place, 0)
    for step in steps:
        if step[1] == place and step[0] in most:
            stock = most[step[0]]
            if stock is None or stock + step[4] >= 0:
                return True
    return False


def needs_of(web):
    """The least stocks with which one can go on for ever, by the places from which one can at all.

    Each ring that loses nothing has a place from which it can be gone with nothing; so one goes on for ever just by
    coming to a place to which one can come back from nothing.
    """
    needs = {}
    for lot, within in lots_known(web):
        for place in lot:
            if comes_back(within, place):
                needs[place] = 0
    steps = web.steps()
    changed = True
    while changed:
        changed = False
        for step in steps:
            if step[1] in needs:
                need = max(0, needs[step[1]] - step[4])
                if step[0] not in needs or need < needs[step[0]]:
                    needs[step[0]] = need
                    changed = True
    return needs


def needs_on(web):
    """The same, kept with the web."""
    if "needs on" not in web.known:
        web.known["needs on"] = needs_of(web)
    return web.known["needs on"]


def least_ons(web):
    """The dict from all places to the least stock with which one can go on for ever from there, or None."""
    needs = needs_on(web)
    return {place: needs.get(place) for place in range(web.places())}


def least_on(web, place):
    """The least stock with which one can go on for ever from a place, None if there is none."""
    check_place(web, place)
    return least_ons(web)[place]


def safe_step(needs, steps):
    """The first of the steps from one place behind which one still has what is needed, having it ahead; or None."""
    for step in steps:
        if step[1] in needs and needs[step[1]] <= needs[step[0]] + step[4]:
            return step
    return None


def way_on(web, place, stock):
    """A walk and a ring behind it that loses nothing, both gone with a stock, None if there are none."""
    check_place(web, place)
    check_stock(stock)
    needs = needs_on(web)
    if place not in needs or stock < needs[place]:
        return None
    # Round a ring of safe steps needs less needs add up to nothing, so it does not lose.
    ahead = leaving(web.steps())
    walk = []
    stood = {}
    while place not in stood:
        stood[place] = len(walk)
        step = safe_step(needs, ahead[place])
        walk.append(step)
        place = step[1]
    return walk[:stood[place]], walk[stood[place]:]


def leads_to_stocks(thing):
    """Whether any object is a dict from integers to numbers or None."""
    if not isinstance(thing, dict):
        return False
    if not all([is_integer(key) for key in thing]):
        return False
    return all([stock is None or is_number(stock) for stock in thing.values()])


def is_safe(web, thing):
    """Whether any object is a safe dict."""
    if not leads_to_stocks(thing) or sorted(thing) != list(range(web.places())):
        return False
    needs = {place: thing[place] for place in thing if thing[place] is not None}
    ahead = leaving(web.steps())
    return all([safe_step(needs, ahead.get(place, [])) is not None for place in needs])


def longest(web, place, stock):
    """The greatest number of steps of a walk that can be gone with a stock, None if there is no greatest."""
    walk = long_walk(web, place, stock)
    if walk is None:
        return None
    return len(walk)


def long_walk(web, place, stock):
    """A walk of as many steps as can be gone with a stock, None if there is no greatest number of them."""
    if way_on(web, place, stock) is not None:
        return None
    layers = longest_layers(web.steps(), place, stock)
    return walk_to(layers, min(list(layers[-1])))
