"""From place to place with a stock: the greatest one that one can come with, its stairs, and covers."""

from anyaround.checks import check_place, check_stock, is_number
from anyaround.climbs import most_by, stairs_to, way_by_climbs
from anyaround.errors import BadWanted
from anyaround.stands import most_stocks
from anyaround.stocks import leads_to_stocks


def check_places(web, place, other):
    """Raise BadPlace for the first of both that is no place of the web."""
    check_place(web, place)
    check_place(web, other)


def most_out(web, place, other, stock):
    """The greatest stock with which one can come to other, None if there is no greatest, -1 if one can not come."""
    check_places(web, place, other)
    check_stock(stock)
    return most_by(stairs_to(web, other).get(place, []), stock)


def stairs(web, place, other):
    """The stairs from a place to another one."""
    check_places(web, place, other)
    return list(stairs_to(web, other).get(place, []))


def way_out(web, place, other, stock, wanted):
    """A walk to other that can be gone with a stock and ends with at least wanted, None if there is none."""
    check_places(web, place, other)
    check_stock(stock)
    if not is_number(wanted):
        raise BadWanted(wanted)
    return way_by_climbs(web, place, other, stock, wanted)


def covers(web, place, stock):
    """The dict from all places to which one can come with a stock to the greatest stock there, or None."""
    check_place(web, place)
    check_stock(stock)
    return most_stocks(web.steps(), place, stock)


def holds_up(thing, step):
    """Whether a cover has enough of the place to which a step leads from one of its places."""
    stock = thing[step[0]]
    if stock is None:
        return step[1] in thing and thing[step[1]] is None
    behind = stock + step[4]
    if behind < 0:
        return True
    return step[1] in thing and (thing[step[1]] is None or thing[step[1]] >= behind)


def is_cover(web, place, stock, thing):
    """Whether any object is a cover of a place and a stock."""
    check_place(web, place)
    check_stock(stock)
    if not leads_to_stocks(thing) or place not in thing:
        return False
    if not all([0 <= key < web.places() for key in thing]):
        return False
    if thing[place] is not None and thing[place] < stock:
        return False
    return all([holds_up(thing, step) for step in web.steps() if step[0] in thing])
