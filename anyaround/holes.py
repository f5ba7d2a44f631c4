"""Parts that are lacking in contexts: what fills them, what is asked of it, and what shows that a wish is kept."""

from anyaround.errors import BadKind
from anyaround.fronts import check_amounts, is_within
from anyaround.nets import whole_of
from anyaround.overs import (ask_prices, ask_rates, is_enough_over, is_mix_below, mix_below, over_of, overs_of,
                             prices_above)
from anyaround.stockasks import ask_budgets, ask_on, ask_through, is_enough_stock, keeps_budget, keeps_stock
from anyaround.surroundings import check_kind, without_below
from anyaround.wishes import check_context, check_filler, check_filler_of, checked_filling, checked_wish


def filled(context, filler):
    """The part that a context and a filler are together."""
    check_context(context)
    check_filler(filler)
    return whole_of([context, filler], [(0, 1, 1, 0), (1, 0, 0, 1)], [[(0, 0)]], [[(0, 0)]])


def wish_of(context, kind, wish):
    """A wish of tuples, behind all that is to be refused of a context, a kind and a wish."""
    check_context(context)
    check_kind(kind)
    if without_below(kind):
        check_amounts(context)
    return checked_wish(kind, wish)


def ask_of(context, kind, wish):
    """What is asked for a wish that was read."""
    if kind == "rates":
        return ask_rates(context, wish)
    if kind == "through":
        return ask_through(context, wish)
    if kind == "on":
        return ask_on(context, wish)
    if kind == "budgets":
        return ask_budgets(context, wish)
    return ask_prices(context, wish)


def keeps(context, kind, wish, filler):
    """Whether a context keeps a wish with a filler."""
    read = wish_of(context, kind, wish)
    check_filler_of(kind, filler)
    if kind in ("rates", "prices"):
        return mix_below(overs_of(context, kind, read, filler)) is not None
    ask = ask_of(context, kind, read)
    if ask is None or ask is True:
        return ask is True
    if kind == "budgets":
        return keeps_budget(ask, filler)
    return keeps_stock(kind, ask, filler)


def asked(context, kind, wish):
    """What is asked of the part that is lacking in a context, for a wish."""
    return ask_of(context, kind, wish_of(context, kind, wish))


def enough(context, kind, wish, row):
    """Whether a filler without a ring and with one pass, with a row, keeps a wish."""
    read = wish_of(context, kind, wish)
    found = checked_filling(kind, row)
    ask = ask_of(context, kind, read)
    if ask is None or ask is True:
        return ask is True
    if kind in ("through", "on"):
        return is_enough_stock(ask, found)
    if kind == "budgets":
        return ask == () or any([is_within(found, bounds) for bounds in ask])
    return is_enough_over(ask, over_of(kind, read, found) if kind == "rates" else (found[0], found[1], 0))


def overs_beside(context, kind, wish, filler):
    """The overs of all keys, behind all that is to be refused."""
    check_context(context)
    check_kind(kind)
    if kind not in ("rates", "prices"):
        raise BadKind(kind)
    read = wish_of(context, kind, wish)
    check_filler_of(kind, filler)
    return overs_of(context, kind, read, filler)


def shown(context, kind, wish, filler):
    """A mix of at most two keys that shows that a wish is kept, None if there is none."""
    return mix_below(overs_beside(context, kind, wish, filler))


def short_at(context, kind, wish, filler):
    """Prices at which a wish is not kept, None if there are none."""
    return prices_above(overs_beside(context, kind, wish, filler))


def is_shown(context, kind, wish, filler, thing):
    """Whether any object is a mix of keys that shows that a wish is kept."""
    return is_mix_below(overs_beside(context, kind, wish, filler), thing)
