"""The rings by which one that must never be empty goes cheapest: those of level steps, and mixes where there is plenty.

Of a lot where there is plenty the rows are meant with what a ring loses for the first amount and what it costs at
prices for the second one: a mix of them that loses nothing can be gone for ever.
"""

from math import lcm

from anyaround.checks import undivided
from anyaround.hulls import even_prices
from anyaround.ringrows import lots_known
from anyaround.searches import cheapest_ring, cost_of, row_along


def is_level(most, step):
    """Whether what a cover has of the end of a step is just what it has of its begin and the step's change together."""
    if most.get(step[0]) is None or most.get(step[1]) is None:
        return False
    return most[step[1]] == most[step[0]] + step[4]


def level_steps(web, most):
    """The level steps of a cover."""
    return [step for step in web.steps() if is_level(most, step)]


def plenty_lots(web, most):
    """The list of the lots, each with the steps within it, whose places have None in a cover."""
    return [(lot, steps) for lot, steps in lots_known(web) if lot[0] in most and most[lot[0]] is None]


def losing(steps, prices):
    """The steps with what they lose and what they cost at prices for amounts."""
    return [(step[0], step[1], (0 - step[4], cost_of(prices, step[2])), step[3], step[4]) for step in steps]


def crossing(line):
    """The numbers of one or two rows of a line, in its order, whose cheapest mix loses nothing; [] if there is none."""
    kept = [number for number, row in enumerate(line) if row[0] <= 0]
    if not kept:
        return []
    last = kept[-1]
    return [last] if last + 1 == len(line) or line[last][0] == 0 else [last, last + 1]


def weights_at(line, numbers):
    """How often each row of a crossing is taken, so that nothing is lost."""
    if len(numbers) < 2:
        return [1 for _ in numbers]
    return [line[numbers[1]][0], 0 - line[numbers[0]][0]]


def rate_of(line, numbers):
    """What the mix of a crossing costs per tick."""
    weights = weights_at(line, numbers)
    cost = sum([weight * line[number][1] for weight, number in zip(weights, numbers)])
    return undivided((cost, sum([weight * line[number][2] for weight, number in zip(weights, numbers)])))


def prices_within(line, number):
    """Prices at which a row of a line is the only cheapest one."""
    first = even_prices(line[number - 1], line[number]) if number > 0 else (1, 0)
    second = even_prices(line[number], line[number + 1]) if number + 1 < len(line) else (0, 1)
    return first[0] + second[0], first[1] + second[1]


def rings_of(steps, line, numbers):
    """The list of the pairs (ring, times) of a crossing; steps are those of the lot as losing tells them."""
    rings = [cheapest_ring(steps, steps[0][0], prices_within(line, number)) for number in numbers]
    # How often each row fits into its ring, so that the rings are gone by so much less often.
    fits = [row_along(ring)[2] // line[number][2] for ring, number in zip(rings, numbers)]
    common = 1
    for fit in fits:
        common = lcm(common, fit)
    times = undivided([weight * (common // fit) for weight, fit in zip(weights_at(line, numbers), fits)])
    return [(ring, many) for ring, many in zip(rings, times)]


def worth_at(line, rate):
    """A pair (many, worth) for a lot by which no row is below a rate, many times, if what it loses is so worth."""
    top, bottom = rate
    numbers = crossing(line)
    if not numbers:
        # Each row loses, so that it is enough if this is worth much.
        lacking = [(top * row[2] - bottom * row[1], row[0]) for row in line]
        return 1, max([0] + [0 - (0 - lack) // loss for lack, loss in lacking])
    last = numbers[0]
    if last + 1 == len(line):
        return 1, 0
    first, second = even_prices(line[last], line[last + 1])
    return second, first * bottom
