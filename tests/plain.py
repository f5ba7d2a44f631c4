"""Plain, slow answers about parts, of each kind, with which the tests compare."""

from fractions import Fraction
from math import gcd
from random import Random

from anyaround.parts import Part, closed

from tests.brute import (change, cost, least_ons_by_search, least_rate, most_by_search, need, pair, per_tick,
                         random_web, rings_from, shares, simple_walks, triple)

KINDS = ["rates", "through", "on", "budgets", "prices"]


def random_part(random, ins=None, outs=None, below=True, places=None, steps=None, **more):
    """A part of few places, with so many doors, or one or two."""
    ins = ins or random.randint(1, 2)
    outs = outs or random.randint(1, 2)
    places = max(ins + outs, places or random.randint(2, 5))
    low = None if below else 0
    web = random_web(random, places, random.randint(0, 9) if steps is None else steps, least=low, **more)
    doors = random.sample(range(places), ins + outs)
    return Part(places, web.steps(), doors[:ins], doors[ins:])


def for_kind(kind):
    """What random_part is passed for parts of a kind, so that not too much happens."""
    if kind in ("budgets", "prices"):
        return {"below": False}
    return {"change": 4} if kind in ("through", "on") else {"amount": 5, "ticks": 4}


def passes(part, i, j):
    """All simple passes from in door i to out door j."""
    return [walk for walk in simple_walks(part.web(), part.ins()[i]) if walk and walk[-1][1] == part.outs()[j]]


def feasible(planes):
    """Whether some point comes with each of planes, lists of integers, to more than 0: numbers are taken out till two are left."""
    planes = {tuple(plane) for plane in planes}
    while len(next(iter(planes))) > 2:
        more = {plane[:-1] for plane in planes if plane[-1] == 0}
        for one in planes:
            for other in planes:
                if one[-1] > 0 > other[-1]:
                    new = [x * -other[-1] + y * one[-1] for x, y in zip(one[:-1], other[:-1])]
                    common = gcd(*new) or 1
                    more.add(tuple(x // common for x in new))
        planes = more
        if not planes:
            return True
    return any(on_a_line(planes, x) for x in (1, 0, -1))


def on_a_line(planes, x):
    """Whether for some y the point (x, y) comes with each of planes, pairs of integers, to more than 0."""
    low, high = None, None
    for a, b in planes:
        if b == 0:
            if a * x <= 0:
                return False
        elif b > 0:
            low = Fraction(-a * x, b) if low is None else max(low, Fraction(-a * x, b))
        else:
            high = Fraction(-a * x, b) if high is None else min(high, Fraction(-a * x, b))
    return low is None or high is None or low < high


def inside_planes(rings):
    """What makes a triple inside: both prices above 0, each ring above 0."""
    return [(1, 0, 0), (0, 1, 0)] + list(rings)


def counting_rows(rows, rings):
    """Those of rows that count where these are the sums of all rings."""
    rows = set(rows)
    return sorted(row for row in rows if feasible(
        inside_planes(rings) + [tuple(x - y for x, y in zip(other, row)) for other in rows if other != row]))


def best_of(rows):
    """Those of rows, lowest, that are alone, in their order."""
    rows = set(rows)
    alone = [row for row in rows if shares(row, rows - {row}, True)]
    return sorted(alone, key=per_tick)


def lowest(row):
    """A row without a common divisor."""
    common = gcd(*row)
    return tuple(x // common for x in row)


def rates_form(part):
    found = []
    for i, place in enumerate(part.ins()):
        rings = {triple(ring) for ring in rings_from(part.web(), place)}
        rows = best_of([lowest(ring) for ring in rings])
        found.append((rows, [counting_rows([triple(walk) for walk in passes(part, i, j)], rings)
                             for j in range(len(part.outs()))]))
    return found


def stairs_by_search(web, place, other, top=80):
    """The stairs, as far as needs up to a top."""
    found = []
    for stock in range(top):
        most = most_by_search(web, place, stock).get(other, -1)
        if most == -1:
            continue
        gain = None if most is None else most - stock
        if not found or found[-1][1] != gain:
            found.append((stock, gain))
    return found


def front(pairs):
    pairs = set(pairs)
    return sorted(one for one in pairs
                  if not any(other != one and other[0] <= one[0] and other[1] <= one[1] for other in pairs))


def hull(pairs):
    rows = [(one[0], one[1], 1) for one in front(pairs)]
    return [row[:2] for row in rows if shares(row, [other for other in rows if other != row], True)]


def costs_form(part, kind):
    of = front if kind == "budgets" else hull
    return [[of([triple(walk)[:2] for walk in passes(part, i, j)]) for j in range(len(part.outs()))]
            for i in range(len(part.ins()))]


def stocks_form(part, kind):
    web = part.web()
    ons = least_ons_by_search(web)
    found = []
    for place in part.ins():
        all_stairs = [stairs_by_search(web, place, out) for out in part.outs()]
        stay = ons[place]
        if kind == "through":
            found.append(all_stairs)
        else:
            found.append((stay, [[one for one in pairs if stay is None or one[0] < stay] for pairs in all_stairs]))
    return found


def plain_form(part, kind):
    if kind == "rates":
        return rates_form(part)
    return stocks_form(part, kind) if kind in ("through", "on") else costs_form(part, kind)


def plain_worth(part, kind, surrounding):
    """The worth of a part in a surrounding, by searches alone."""
    if kind == "rates":
        door, ways, prices = surrounding
        found = least_rate(closed(part, ways), part.ins()[door], prices)
        return None if found is None else pair(found)
    if kind == "through":
        door, out, stock, wanted = surrounding
        most = most_by_search(part.web(), part.ins()[door], stock).get(part.outs()[out], -1)
        return most is None or most >= wanted
    if kind == "on":
        door, ways, ends, stock = surrounding
        web = closed(part, ways)
        least = least_ons_by_search(web)[part.ins()[door]]
        if least is not None and least <= stock:
            return True
        most = most_by_search(web, part.ins()[door], stock)
        return any(most.get(part.outs()[out], -1) is None or most.get(part.outs()[out], -1) >= wanted
                   for out, wanted in ends)
    door, out, last = surrounding
    pairs = [triple(walk)[:2] for walk in passes(part, door, out)]
    if kind == "budgets":
        return any(all(bound is None or amount <= bound for amount, bound in zip(one, last)) for one in pairs)
    return min((cost(last, one) for one in pairs), default=None)


def is_worse(kind, one, other):
    """Whether a worth is worse than another one."""
    if kind in ("rates", "prices"):
        if one is None or other is None:
            return one is None and other is not None
        return Fraction(*one) > Fraction(*other) if kind == "rates" else one > other
    return other and not one


def random_surrounding(random, kind, ins, outs, ways=1):
    """A surrounding of a kind for so many doors, with at most so many ways back."""
    door, out = random.randrange(ins), random.randrange(outs)
    back = [(random.randrange(outs), random.randrange(ins), (random.randint(-9, 9), random.randint(-9, 9)),
             random.randint(1, 6), random.randint(-5, 5)) for _ in range(random.randint(0, ways))]
    back = list(dict.fromkeys(back))
    prices = (random.randint(1, 5), random.randint(1, 5))
    if kind == "rates":
        return door, back, prices
    if kind == "through":
        return door, out, random.randint(0, 20), random.randint(0, 20)
    if kind == "on":
        ends = list({(random.randrange(outs), random.randint(0, 12)) for _ in range(random.randint(0, 2))})
        return door, back, ends, random.randint(0, 12)
    if kind == "budgets":
        return door, out, tuple(random.choice([None, random.randint(0, 20)]) for _ in range(2))
    return door, out, prices


def fillers(seed, many, kind, **more):
    random = Random(seed)
    return [random_part(random, **{**for_kind(kind), **more}) for _ in range(many)]
