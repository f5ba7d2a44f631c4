"""The passes of parts, as rates see them."""

from anyaround.checks import undivided
from anyaround.hulls import even_prices, neighbours
from anyaround.parts import check_door
from anyaround.rows import best_rows
from anyaround.searches import cost_of


def corner_at(prices, row):
    """The corner at prices at which a row is a cheapest one per tick."""
    return undivided((prices[0] * row[2], prices[1] * row[2], 0 - cost_of(prices, row)))


def corners(part, door):
    """The list of the triples that bound what is inside at an in door."""
    check_door(part.ins(), door)
    line = best_rows(part.web(), part.ins()[door])
    if not line:
        return [(1, 0, 0), (0, 1, 0), (0, 0, 1), (0, 0, -1)]
    found = [corner_at((1, 0), line[0])]
    for low, high in neighbours(line):
        found.append(corner_at(even_prices(low, high), low))
    return found + [corner_at((0, 1), line[-1]), (0, 0, 1)]
