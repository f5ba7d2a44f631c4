"""From place to place with a stock: the greatest one that one can come with, its stairs, and covers."""

from anyaround.checks import check_place, check_stock, is_number
from anyaround.errors import BadWanted
from anyaround.searches import come_from
from anyaround.stands import layers_until, most_stocks, walk_to
from anyaround.stocks import leads_to_stocks


def check_places(web, place, other):
    """Raise BadPlace for the first of both that is no place of the web."""
    check_place(web, place)
    check_place(web, other)


def most_out(web, place, other, stock):
    """The greatest stock with which one can come to other, None if there is no greatest, -1 if one can not come."""
    check_places(web, place, other)
    check_stock(stock)
    return most_stocks(steps_towards(web, other), place, stock).get(other, -1)


def steps_towards(web, other):
    """The ascending list of the steps from which one can come to a place."""
    places = {place: True for place in come_from(web.steps(), [other])}
    return [step for step in web.steps() if step[1] in places]


def gain_rank(steps, place, other, stock):
    """What one gains on the way to other as (1, gain), (2, 0) without end, (0, 0) if one can not come: ascending."""
    most = most_stocks(steps, place, stock)
    if other not in most:
        return 0, 0
    if most[other] is None:
        return 2, 0
    return 1, most[other] - stock


def greatest_need(steps):
    """What is enough to go any simple walk by steps, and any ring that shares with it the place where it ends."""
    losses = {}
    for step in steps:
        losses[step[0]] = max(losses.get(step[0], 0), 0 - step[4])
    return sum(list(losses.values()))


def next_need(steps, place, other, low, high):
    """The least stock above low with which one gains more than with low, and the rank of that; more is so with high.

    What one gains never falls with more stock, so the stocks in question are halved.
    """
    rank = gain_rank(steps, place, other, low) if low >= 0 else (0, 0)
    best = gain_rank(steps, place, other, high)
    while high - low > 1:
        mid = (low + high) // 2
        found = gain_rank(steps, place, other, mid)
        if found > rank:
            high = mid
            best = found
        else:
            low = mid
    return high, best


def stairs(web, place, other):
    """The stairs from a place to another one."""
    check_places(web, place, other)
    steps = steps_towards(web, other)
    top = greatest_need(steps)
    last = gain_rank(steps, place, other, top)
    found = []
    need = -1
    rank = (0, 0)
    while rank < last:
        need, rank = next_need(steps, place, other, need, top)
        found.append((need, None if rank == (2, 0) else rank[1]))
    return found


def way_out(web, place, other, stock, wanted):
    """A walk to other that can be gone with a stock and ends with at least wanted, None if there is none."""
    most = most_out(web, place, other, stock)
    if not is_number(wanted):
        raise BadWanted(wanted)
    if most is not None and most < wanted:
        return None
    layers = layers_until(steps_towards(web, other), place, stock, other, wanted)
    return walk_to(layers, other)


def covers(web, place, stock):
    """The dict from all places to which one can come with a stock to the greatest stock there, or None."""
    check_place(web, place)
    check_stock(stock)
    return most_stocks(web.steps(), place, stock)


def holds_up(thing, step):
    """Whether a cover has enough of the place to which a step leads from one of its places."""
    stock = thing[step[0]]
    if stock is None:
        return step[1] in thing and thing[step[1]] is None
    behind = stock + step[4]
    if behind < 0:
        return True
    return step[1] in thing and (thing[step[1]] is None or thing[step[1]] >= behind)


def is_cover(web, place, stock, thing):
    """Whether any object is a cover of a place and a stock."""
    check_place(web, place)
    check_stock(stock)
    if not leads_to_stocks(thing) or place not in thing:
        return False
    if not all([0 <= key < web.places() for key in thing]):
        return False
    if thing[place] is not None and thing[place] < stock:
        return False
    return all([holds_up(thing, step) for step in web.steps() if step[0] in thing])
