"""What passed things are, and what is raised where they are something else."""

from math import gcd

from anyaround.errors import BadFraction, BadPlace, BadPrices, BadStock


def is_integer(thing):
    """Whether a thing is an integer; True and False are none."""
    return isinstance(thing, int) and not isinstance(thing, bool)


def is_number(thing):
    """Whether a thing is an integer from 0 on."""
    return is_integer(thing) and thing >= 0


def is_list(thing):
    """Whether a thing is a list, or a tuple, which means the same."""
    return isinstance(thing, (list, tuple))


def is_integers(thing, many):
    """Whether a thing is a list of just so many integers."""
    if not is_list(thing) or len(thing) != many:
        return False
    for part in thing:
        if not isinstance(part, int) or isinstance(part, bool):
            return False
    return True


def undivided(integers):
    """Integers, not all 0, as a tuple without a common divisor above 1."""
    common = 0
    for integer in integers:
        common = gcd(common, integer)
    return tuple([integer // common for integer in integers])


def read_fraction(thing):
    """A fraction in lowest terms, None for what is no fraction."""
    if not is_integers(thing, 2) or thing[1] < 1:
        return None
    return undivided(thing)


def checked_fraction(thing):
    """A fraction in lowest terms."""
    found = read_fraction(thing)
    if found is None:
        raise BadFraction(thing)
    return found


def checked_prices(thing):
    """Prices as a pair, not divided, as what is told hangs on how they are passed."""
    if not is_integers(thing, 2) or thing[0] < 1 or thing[1] < 1:
        raise BadPrices(thing)
    return thing[0], thing[1]


def check_place(web, place):
    """Raise BadPlace for what is no place of the web."""
    if not is_integer(place) or place < 0 or place >= web.places():
        raise BadPlace(place)


def check_stock(stock):
    """Raise BadStock for what is no number."""
    if not is_number(stock):
        raise BadStock(stock)
