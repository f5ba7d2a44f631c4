"""The rows of rings, by the lots in which these lie: all of them, and those that are alone.

What is told here is kept with the web, and is no caller's to change.
"""

from anyaround.checks import undivided
from anyaround.hulls import alone, even_prices, in_order
from anyaround.searches import come_from, come_to, cost_of, leaving, lots_of, row_along, sums_or_ring, weights_above


def row_of(ring):
    """The row of a ring."""
    return undivided(row_along(ring))


def lots_known(web):
    """The list of the lots, each with the ascending list of the steps within it."""
    if "lots" not in web.known:
        web.known["lots"] = lots_of(web.steps())
    return web.known["lots"]


def lots_ahead(web, place):
    """The list of the lots that are reached from a place, each with the list of the steps within it."""
    key = ("lots", place)
    if key not in web.known:
        places = {other: True for other in come_to(web.steps(), [place])}
        web.known[key] = [(lot, steps) for lot, steps in lots_known(web) if lot[0] in places]
    return web.known[key]


def steps_round(steps, start):
    """The steps of rings whose least place is a start, by the places where they begin."""
    above = [step for step in steps if step[0] >= start and step[1] >= start]
    back = {place: True for place in come_from(above, [start])}
    ahead = {place: True for place in come_to(above, [start])}
    return leaving([step for step in above if step[0] in ahead and step[1] in back])


def one_further(ahead, start, layer, found):
    """Walks from start that are a step longer; those that close a ring are put into found.

    A layer leads from the pairs (end, places come into, as bits) of simple walks to dicts from their sums to some walk
    that has this sum, told as a pair: the walk without its last step, or None, and this step. found is such a dict.
    """
    longer = {}
    for (place, seen), sums in layer.items():
        for step in ahead[place]:
            bit = 1 << step[1]
            if seen & bit:
                continue
            kept = found if step[1] == start else longer.setdefault((step[1], seen | bit), {})
            for (first, second, ticks), walk in sums.items():
                kept[(first + step[2][0], second + step[2][1], ticks + step[3])] = (walk, step)
    return longer


def rings_within(lot, steps):
    """The dict from the rows of all rings of a lot to a ring with this row, told as one_further does."""
    found = {}
    for start in lot:
        # Each ring is looked for from its least place alone.
        ahead = steps_round(steps, start)
        layer = {(start, 0): {(0, 0, 0): None}} if start in ahead else {}
        while layer:
            layer = one_further(ahead, start, layer, found)
    return {undivided(row): found[row] for row in found}


def lot_rows(web, lot, steps):
    """The rows of all rings of a lot of a web, a dict from each to a ring with this row, told as one_further does."""
    key = ("rows", lot[0])
    if key not in web.known:
        web.known[key] = rings_within(lot, steps)
    return web.known[key]


def ring_told(walk):
    """A ring as a list of its steps, of what one_further tells."""
    ring = []
    while walk is not None:
        walk, step = walk
        ring.append(step)
    return list(reversed(ring))


def rows_ahead(web, place):
    """The rows of all rings that can be come to from a place, each once, in their order."""
    key = ("rows ahead", place)
    if key not in web.known:
        found = {}
        for lot, steps in lots_ahead(web, place):
            for row in lot_rows(web, lot, steps):
                found[row] = True
        web.known[key] = in_order(list(found))
    return web.known[key]


def greatest_price(steps):
    """A price of one amount beside which, at 1, the other one only decides between rings that have like much of it.

    Two rings differ in the one amount per tick by 1 at least by the product of their ticks, and in the other one by
    no more than two steps can.
    """
    ticks = sum([step[3] for step in steps])
    most = max([0] + [abs(amount) for step in steps for amount in step[2]])
    return 2 * most * ticks * ticks + 1


def cheaper_row(steps, prices, row):
    """The row of a ring of least rate at prices; row is that of any ring."""
    starts = {step[0]: 0 for step in steps}
    while row is not None:
        best = row
        rate = (cost_of(prices, best), best[2])
        _, ring = sums_or_ring(steps, weights_above(steps, prices, rate), dict(starts))
        row = None if ring is None else row_of(ring)
    return best


def line_within(steps):
    """The rows of the rings of a lot that are alone, in their order."""
    loops = [(step[2][0], step[2][1], step[3]) for step in steps if step[0] == step[1]]
    if len(loops) == len(steps):
        return alone(list({undivided(row): True for row in loops}))
    much = greatest_price(steps)
    # At so great a rate each ring is below it.
    dear = max([abs(amount) for step in steps for amount in step[2]]) + 1
    first = cheaper_row(steps, (much, 1), (dear, dear, 1))
    last = cheaper_row(steps, (1, much), first)
    found = {first: True, last: True}
    todo = [(first, last)]
    while todo:
        low, high = todo.pop()
        if low != high:
            prices = even_prices(low, high)
            row = cheaper_row(steps, prices, low)
            if cost_of(prices, row) * low[2] < cost_of(prices, low) * row[2]:
                found[row] = True
                todo.append((low, row))
                todo.append((row, high))
    return alone(list(found))


def lot_line(web, lot, steps):
    """The rows of the rings of a lot of a web that are alone, in their order."""
    key = ("line", lot[0])
    if key not in web.known:
        rows = web.known.get(("rows", lot[0]))
        web.known[key] = line_within(steps) if rows is None else alone(list(rows))
    return web.known[key]


def lines_ahead(web, place):
    """The rows of rings that can be come to from a place that are alone, in their order."""
    key = ("line ahead", place)
    if key not in web.known:
        found = {}
        for lot, steps in lots_ahead(web, place):
            for row in lot_line(web, lot, steps):
                found[row] = True
        web.known[key] = alone(list(found))
    return web.known[key]
