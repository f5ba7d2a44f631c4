"""The rows of the rings that one can come to from a place, whatever the prices are."""

from anyaround.checks import check_place, is_integers
from anyaround.errors import BadRow
from anyaround.hulls import even_prices, mix_upto, neighbours
from anyaround.ringrows import lines_ahead, rows_ahead
from anyaround.searches import cost_of


def rows_of(web, place):
    """The rows of all rings that one can come to from a place, each once."""
    check_place(web, place)
    return list(rows_ahead(web, place))


def best_rows(web, place):
    """The rows that are at some prices the only cheapest ones per tick."""
    check_place(web, place)
    return list(lines_ahead(web, place))


def bends(web, place):
    """The prices at which two neighbours in best_rows cost the same per tick."""
    return [even_prices(low, high) for low, high in neighbours(best_rows(web, place))]


def checked_row(web, place, row):
    """A row of rows_of, as a tuple."""
    check_place(web, place)
    if not is_integers(row, 3) or tuple(row) not in rows_ahead(web, place):
        raise BadRow(row)
    return tuple(row)


def prices_among(line, row):
    """Prices at which a row is a cheapest one per tick, beside all that are alone; None if there are none."""
    if line == [row]:
        return 1, 1
    # Who is cheapest anywhere is it at a bend, too.
    for low, high in neighbours(line):
        prices = even_prices(low, high)
        if cost_of(prices, row) * low[2] == cost_of(prices, low) * row[2]:
            return prices
    return None


def prices_for(web, place, row):
    """Prices at which a row of rows_of is a cheapest one per tick, None if there are none."""
    asked = checked_row(web, place, row)
    return prices_among(lines_ahead(web, place), asked)


def mix_under(web, place, row):
    """A mix of at most two of best_rows that has less per tick than a row of rows_of, None if there is none."""
    asked = checked_row(web, place, row)
    line = lines_ahead(web, place)
    if prices_among(line, asked) is not None:
        return None
    return mix_upto(line, asked)
