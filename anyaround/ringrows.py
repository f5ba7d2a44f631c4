"""The rows of the rings that can be come to by steps: all of them, and those that are alone."""

from anyaround.checks import undivided
from anyaround.hulls import alone, even_prices, in_order
from anyaround.searches import cheapest_ring, come_from, come_to, cost_of, leaving, row_along


def row_of(ring):
    """The row of a ring."""
    return undivided(row_along(ring))


def steps_round(steps, start):
    """The steps of rings whose least place is a start, by the places where they begin."""
    above = [step for step in steps if step[0] >= start and step[1] >= start]
    back = {place: True for place in come_from(above, [start])}
    ahead = {place: True for place in come_to(above, [start])}
    return leaving([step for step in above if step[0] in ahead and step[1] in back])


def one_further(ahead, start, layer, found):
    """Walks from start that are a step longer; those that close a ring are put into found.

    A layer leads from the pairs (end, places come into, as bits) of simple walks to dicts of their sums.
    """
    longer = {}
    for (place, seen), sums in layer.items():
        for step in ahead[place]:
            bit = 1 << step[1]
            if seen & bit:
                continue
            more = [(first + step[2][0], second + step[2][1], ticks + step[3]) for first, second, ticks in sums]
            kept = found if step[1] == start else longer.setdefault((step[1], seen | bit), {})
            for row in more:
                kept[row] = True
    return longer


def all_rows(steps, place):
    """The rows of all rings that can be come to from a place, each once, in their order."""
    found = {}
    for start in come_to(steps, [place]):
        # Each ring is looked for from its least place alone.
        ahead = steps_round(steps, start)
        layer = {(start, 0): {(0, 0, 0): True}} if start in ahead else {}
        while layer:
            layer = one_further(ahead, start, layer, found)
    rows = {undivided(row): True for row in found}
    return in_order(list(rows))


def greatest_price(steps):
    """A price of one amount beside which, at 1, the other one only decides between rings that have like much of it.

    Two rings differ in the one amount per tick by 1 at least by the product of their ticks, and in the other one by
    no more than two steps can.
    """
    ticks = sum([step[3] for step in steps])
    most = max([0] + [abs(amount) for step in steps for amount in step[2]])
    return 2 * most * ticks * ticks + 1


def alone_rows(steps, place):
    """The rows of rings that can be come to from a place that are alone, in their order."""
    much = greatest_price(steps)
    ends = [cheapest_ring(steps, place, prices) for prices in ((much, 1), (1, much))]
    if ends[0] is None:
        return []
    first, last = row_of(ends[0]), row_of(ends[1])
    found = {first: True, last: True}
    todo = [(first, last)]
    while todo:
        low, high = todo.pop()
        if low != high:
            prices = even_prices(low, high)
            row = row_of(cheapest_ring(steps, place, prices))
            if cost_of(prices, row) * low[2] < cost_of(prices, low) * row[2]:
                found[row] = True
                todo.append((low, row))
                todo.append((row, high))
    return alone(list(found))
