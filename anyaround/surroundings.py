"""Surroundings of parts, of each kind, and the worths of parts in them."""

from anyaround.checks import is_integer, is_integers, is_list, is_number, undivided
from anyaround.climbs import most_by, stairs_to
from anyaround.errors import BadKind
from anyaround.fronts import front_of, is_within, read_bounds
from anyaround.parts import closed_steps, read_ways
from anyaround.searches import cheapest_ring, cost_of, row_along
from anyaround.stands import most_stocks

KINDS = ("rates", "through", "on", "budgets", "prices")


def check_kind(kind):
    """Raise BadKind for what is no kind."""
    if not isinstance(kind, str) or kind not in KINDS:
        raise BadKind(kind)


def without_below(kind):
    """Whether parts have no amount below 0, for this kind."""
    return kind in ("budgets", "prices")


def is_door(many, thing):
    """Whether a thing is the number of one of so many doors."""
    return is_integer(thing) and 0 <= thing < many


def read_prices(thing):
    """Prices as a pair, None for what is none."""
    if not is_integers(thing, 2) or min(thing) < 1:
        return None
    return tuple(thing)


def read_ends(outs, things):
    """Unlike ends, pairs of an out door and a number, as tuples; None for what is no list of these."""
    if not is_list(things):
        return None
    found = {}
    for thing in things:
        if not is_integers(thing, 2) or not is_door(outs, thing[0]) or thing[1] < 0:
            return None
        if tuple(thing) in found:
            return None
        found[tuple(thing)] = True
    return list(found)


def read_behind(kind, ins, outs, things):
    """What stands in a surrounding behind its in door, as a tuple in which None stands for what is wrong."""
    if kind == "rates" and len(things) == 2:
        return read_ways(ins, outs, things[0])[0], read_prices(things[1])
    if kind == "through" and len(things) == 3:
        out, stock, wanted = things
        return (out if is_door(outs, out) else None, stock if is_number(stock) else None,
                wanted if is_number(wanted) else None)
    if kind == "on" and len(things) == 3:
        ways, ends, stock = things
        return (read_ways(ins, outs, ways)[0], read_ends(outs, ends), stock if is_number(stock) else None)
    if without_below(kind) and len(things) == 2:
        out, last = things
        return out if is_door(outs, out) else None, read_bounds(last) if kind == "budgets" else read_prices(last)
    return (None,)


def read_surrounding(kind, ins, outs, thing):
    """A surrounding of a kind for so many doors, of tuples and with new lists; None for what is none."""
    if not is_list(thing) or not thing or not is_door(ins, thing[0]):
        return None
    behind = read_behind(kind, ins, outs, thing[1:])
    if any([one is None for one in behind]):
        return None
    return (thing[0],) + behind


def leads_round(pairs):
    """Whether some of pairs (one, other) lead round."""
    many = len(pairs) + 1
    # What leads nowhere goes away, until all that is left leads on.
    while pairs and len(pairs) < many:
        many = len(pairs)
        begins = {one: True for one, _ in pairs}
        pairs = [(one, other) for one, other in pairs if other in begins]
    return bool(pairs)


def goes_on(steps, most):
    """Whether one can go on for ever where these are the greatest stocks that one can have."""
    if any([stock is None for stock in most.values()]):
        return True
    # Where no ring gains one goes on by rings that lose nothing, and can go these with the most that one can have.
    return leads_round([(step[0], step[1]) for step in steps
                        if step[0] in most and most[step[0]] + step[4] == most.get(step[1])])


def rates_worth(part, door, ways, prices):
    """The least rate at prices of the rings that one can come to from an in door, None if there are none."""
    ring = cheapest_ring(closed_steps(part, ways), part.ins()[door], prices)
    if ring is None:
        return None
    row = row_along(ring)
    return undivided((cost_of(prices, row), row[2]))


def on_worth(part, door, ways, ends, stock):
    """Whether one can go on for ever, within or outside, who comes in with a stock."""
    steps = closed_steps(part, ways)
    most = most_stocks(steps, part.ins()[door], stock)
    if goes_on(steps, most):
        return True
    outs = part.outs()
    return any([most.get(outs[out], -1) >= least for out, least in ends])


def worth_of(part, kind, surrounding):
    """The worth of a part in a surrounding, as read_surrounding tells it."""
    if kind == "rates":
        door, ways, prices = surrounding
        return rates_worth(part, door, ways, prices)
    if kind == "on":
        door, ways, ends, stock = surrounding
        return on_worth(part, door, ways, ends, stock)
    if kind == "through":
        door, out, stock, wanted = surrounding
        most = most_by(stairs_to(part.web(), part.outs()[out]).get(part.ins()[door], []), stock)
        return most is None or most >= wanted
    door, out, last = surrounding
    front = front_of(part, door, out)
    if kind == "budgets":
        return any([is_within(pair, last) for pair in front])
    return min([cost_of(last, pair) for pair in front], default=None)
