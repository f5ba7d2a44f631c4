"""What forms of parts of one in door and one out door have of their doors, and how it is put together, by kinds.

Of "rates" it is a pair (rows, pass rows), of "on" a pair (stay, stairs), of "through" stairs, of "budgets" and "prices"
pairs of amounts.
"""

from anyaround.chains import lesser, many_times, stairs_behind, stays_behind
from anyaround.checks import undivided
from anyaround.fronts import hull_of
from anyaround.hulls import alone
from anyaround.passes import counting


def of_work(kind, work):
    """What a work has by itself."""
    amounts, ticks, change = work
    pairs = [(max(0, 0 - change), change)]
    if kind == "rates":
        return [], [(amounts[0], amounts[1], ticks)]
    if kind == "through":
        return pairs
    return (None, pairs) if kind == "on" else [amounts]


def front_among(pairs):
    """Those of pairs to which no other one is at most, ascending."""
    found = []
    for pair in sorted({pair: True for pair in pairs}):
        if not found or pair[1] < found[-1][1]:
            found.append(pair)
    return found


def costs_among(kind, pairs):
    """Those of pairs of amounts that a form has."""
    front = front_among(pairs)
    return front if kind == "budgets" else hull_of(front)


def rates_among(rows, points):
    """The rows and the pass rows of a form where these are all, perhaps some twice."""
    best = alone(list({row: True for row in rows}))
    return best, counting(sorted({point: True for point in points}), best)


def sums(one, other):
    """The sums of each of some rows and each of others."""
    return [tuple([x + y for x, y in zip(left, right)]) for left in one for right in other]


def in_row(kind, one, other):
    """What there is of two, one behind the other."""
    if kind == "rates":
        return rates_among(one[0] + other[0], sums(one[1], other[1]))
    if kind == "through":
        return stairs_behind(one, other)
    if kind == "on":
        return stays_behind(one, other)
    return costs_among(kind, sums(one, other))


def best_stairs(one, other):
    """The stairs of who can go either of two."""
    # Of pairs of like need the one that gains most comes first; None is more than all.
    keyed = sorted([(need, gain is not None, 0 if gain is None else 0 - gain) for need, gain in one + other])
    found = []
    for need, ends, loss in keyed:
        if not found or (found[-1][1] is not None and (not ends or 0 - loss > found[-1][1])):
            found.append((need, 0 - loss if ends else None))
    return found


def below(stay, pairs):
    """The stairs that who can not stay has."""
    return [pair for pair in pairs if stay is None or pair[0] < stay]


def in_turn(kind, one, other):
    """What there is of either of two."""
    if kind == "rates":
        return rates_among(one[0] + other[0], one[1] + other[1])
    if kind == "through":
        return best_stairs(one, other)
    if kind == "on":
        stay = lesser(one[0], other[0])
        return stay, below(stay, best_stairs(one[1], other[1]))
    return costs_among(kind, one + other)


def first_need(pairs, least):
    """The least need with which one gains at least so much, None if there is none."""
    return min([need for need, gain in pairs if gain is None or gain >= least], default=None)


def over_again(kind, one):
    """What there is of who can go one as often as one likes, once at least."""
    if kind == "rates":
        rows, points = one
        return rates_among(rows + [undivided(point) for point in points], points)
    if kind == "through":
        # Who gains once gains each time, as nothing is lost by having more.
        need = first_need(one, 1)
        return below(need, one) + ([] if need is None else [(need, None)])
    if kind == "on":
        stay = lesser(one[0], first_need(one[1], 0))
        return stay, below(stay, one[1])
    # No amount is below 0, so that once is cheapest.
    return one


def so_often(kind, one, many):
    """What there is of many, one behind another."""
    if kind == "rates":
        return one[0], [tuple([number * many for number in point]) for point in one[1]]
    if kind == "prices":
        return [(first * many, second * many) for first, second in one]
    return many_times(one, many, lambda left, right: in_row(kind, left, right))
