"""Searches along steps: what is come to, least sums, rings below 0, cheapest rings."""


def leaving(steps):
    """The steps by the places where they begin."""
    found = {}
    for step in steps:
        found.setdefault(step[0], []).append(step)
    return found


def spread(neighbours, starts):
    """The ascending list of the places come to from starts, these too; neighbours are pairs (one, other)."""
    ahead = {}
    for one, other in neighbours:
        ahead.setdefault(one, []).append(other)
    seen = {place: True for place in starts}
    todo = list(starts)
    while todo:
        place = todo.pop()
        for other in ahead.get(place, []):
            if other not in seen:
                seen[other] = True
                todo.append(other)
    return sorted(seen)


def come_to(steps, starts):
    """The ascending list of the places to which walks lead from starts, these too."""
    return spread([(step[0], step[1]) for step in steps], starts)


def come_from(steps, ends):
    """The ascending list of the places from which walks lead to ends, these too."""
    return spread([(step[1], step[0]) for step in steps], ends)


def in_reach(steps, place):
    """The steps that can be come to from a place, those nearer to it first."""
    ahead = leaving(steps)
    seen = {place: True}
    todo = [place]
    found = []
    while todo:
        later = []
        for one in todo:
            for step in ahead.get(one, []):
                found.append(step)
                if step[1] not in seen:
                    seen[step[1]] = True
                    later.append(step[1])
        todo = later
    return found


def left_last(ahead, starts):
    """The places to which neighbours lead from starts, each behind those to which it leads, but for rings."""
    seen = {}
    found = []
    for start in starts:
        todo = [] if start in seen else [(start, 0)]
        seen[start] = True
        while todo:
            place, k = todo.pop()
            others = ahead.get(place, [])
            if k == len(others):
                found.append(place)
            else:
                todo.append((place, k + 1))
                if others[k] not in seen:
                    seen[others[k]] = True
                    todo.append((others[k], 0))
    return found


def together_of(steps):
    """A dict from the places of steps to the least place of those that can be come to from one another."""
    ahead = {}
    back = {}
    for step in steps:
        ahead.setdefault(step[0], []).append(step[1])
        back.setdefault(step[1], []).append(step[0])
    least = {}
    for start in reversed(left_last(ahead, list(ahead))):
        if start not in least:
            group = come_back(back, start, least)
            first = min(group)
            for place in group:
                least[place] = first
    return least


def come_back(back, start, taken):
    """The places to which one comes from a start by going back, this one too, without any that are taken."""
    found = [start]
    seen = {start: True}
    todo = [start]
    while todo:
        place = todo.pop()
        for other in back.get(place, []):
            if other not in seen and other not in taken:
                seen[other] = True
                found.append(other)
                todo.append(other)
    return found


def lots_of(steps):
    """The list of the lots, ascending lists of places, by their least places, each with the steps within it."""
    least = together_of(steps)
    within = {}
    for step in steps:
        if step[1] in least and least[step[0]] == least[step[1]]:
            within.setdefault(least[step[0]], []).append(step)
    return [(sorted({step[0]: True for step in within[first]}), within[first]) for first in sorted(within)]


def ring_back(came, place):
    """The ring into which one comes by going back from a place, as came tells; None if one comes to a begin.

    came leads from places to the steps by which one came there last.
    """
    seen = {}
    while place in came and place not in seen:
        seen[place] = True
        place = came[place][0]
    if place not in came:
        return None
    ring = [came[place]]
    while ring[-1][0] != place:
        ring.append(came[ring[-1][0]])
    return list(reversed(ring))


def lowered(steps, weights, sums, came):
    """Go over all steps once and lower sums by them; the place that was lowered last, or None."""
    late = None
    for step, weight in zip(steps, weights):
        if step[0] in sums:
            through = sums[step[0]] + weight
            if step[1] not in sums or through < sums[step[1]]:
                sums[step[1]] = through
                came[step[1]] = step
                late = step[1]
    return late


def least_sums(steps, weights, place):
    """A pair: the least sums of weights of walks from a place, by their ends, or None; None, or a ring below 0.

    The ring can be come to from the place, and its weights come to less than 0.
    """
    return sums_or_ring(steps, weights, {place: 0})


def sums_or_ring(steps, weights, sums):
    """The same for walks from several places, at sums that are there already; the dict of these is used up."""
    came = {}
    late = lowered(steps, weights, sums, came)
    # Whoever is lowered in a round later than there are places was lowered by way of a ring, so this ends.
    while late is not None:
        ring = ring_back(came, late)
        if ring is not None:
            return None, ring
        late = lowered(steps, weights, sums, came)
    return {end: sums[end] for end in sorted(sums)}, None


def cost_of(prices, amounts):
    """What a pair of amounts, or the first two of a row, costs at prices."""
    return prices[0] * amounts[0] + prices[1] * amounts[1]


def weights_above(steps, prices, rate):
    """What each step costs above a rate, as often as the bottom of the rate tells."""
    top, bottom = rate
    first = bottom * prices[0]
    second = bottom * prices[1]
    return [first * step[2][0] + second * step[2][1] - top * step[3] for step in steps]


def row_along(walk):
    """The amounts and the ticks of the steps of a walk together, as a triple, not divided."""
    first = sum([step[2][0] for step in walk])
    second = sum([step[2][1] for step in walk])
    return first, second, sum([step[3] for step in walk])


def cheapest_ring(steps, place, prices):
    """A ring with the least rate at prices that can be come to from a place, None if there is none."""
    # No ring costs more per tick than its dearest step does, as each step takes a tick.
    rate = (1 + max([0] + [cost_of(prices, step[2]) for step in steps]), 1)
    best = None
    while True:
        _, ring = least_sums(steps, weights_above(steps, prices, rate), place)
        if ring is None:
            return best
        best = ring
        row = row_along(ring)
        rate = (cost_of(prices, row), row[2])
