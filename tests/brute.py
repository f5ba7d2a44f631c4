"""Plain, slow answers that the tests compare with, and webs that they try."""

from fractions import Fraction
from random import Random

from anyaround.errors import AroundError, BadPlace
from anyaround.parts import Part
from anyaround.webs import Web

W_STEPS = [(0, 1, (2, 0), 1, 0), (1, 0, (0, 2), 1, 0), (1, 1, (0, 3), 1, -1), (1, 2, (0, 0), 1, 0),
           (2, 2, (3, 0), 1, 1)]
V_STEPS = [(one, other, (0, 0), 1, change) for one, other, change in
           [(0, 1, -3), (0, 2, -1), (0, 3, -5), (1, 2, 5), (3, 2, 0), (3, 3, 1)]]
P_STEPS = [(0, 1, (1, 1), 1, 0), (1, 1, (2, 0), 1, 0), (1, 2, (1, 0), 1, 0), (0, 2, (0, 4), 1, 0)]


def web_w():
    return Web(3, W_STEPS)


def web_v():
    return Web(4, V_STEPS)


def part_p():
    return Part(3, P_STEPS, [0], [2])


def objects():
    """One of any kind of object."""
    web = web_w()
    return [0, 1, -1, 7, True, False, None, "", "ab", "01", [], (), {}, [[]], [0], [None], ["ab"], (1, 2), [1, 2, 3],
            {0: 0}, {"a": 1}, {None: None}, {True: 0}, {0: True}, {(1, 2): [3]}, {0: {}}, len, lambda: 0, web,
            part_p(), AroundError("no"), BadPlace(3), [web], {0: web}, [(0, 1)], [[0, 1, [2, 0], 1]], 10 ** 50]


def non_integers():
    return [True, False, None, "0", "", [], (), [0], {}, len, web_w(), part_p(), BadPlace(0)]


def non_lists():
    return [0, 1, True, None, "", "ab", {}, {0: 1}, len, web_w(), part_p()]


def random_web(random, places, steps, amount=9, ticks=6, change=9, least=None):
    low = -amount if least is None else least
    found = {}
    for _ in range(steps):
        step = (random.randrange(places), random.randrange(places),
                (random.randint(low, amount), random.randint(low, amount)),
                random.randint(1, ticks), random.randint(-change, change))
        found[step] = True
    return Web(places, list(found))


def random_webs(seed, many, **more):
    random = Random(seed)
    return [random_web(random, random.randint(1, 5), random.randint(0, 9), **more) for _ in range(many)]


def reached_from(web, place):
    seen = {place}
    while True:
        more = {step[1] for step in web.steps() if step[0] in seen} - seen
        if not more:
            return sorted(seen)
        seen |= more


def simple_walks(web, place):
    """All walks from a place that come into no place twice, nor into the place, and [], the empty one."""
    found = []

    def go(walk, seen, at):
        found.append(list(walk))
        for step in web.steps():
            if step[0] == at and step[1] not in seen:
                go(walk + [step], seen | {step[1]}, step[1])

    go([], {place}, place)
    return found


def rings_at(web, place):
    """All rings that begin at a place."""
    return [walk + [step] for walk in simple_walks(web, place) for step in web.steps()
            if step[0] == (walk[-1][1] if walk else place) and step[1] == place]


def rings_from(web, place):
    """All rings that can be come to from a place, wherever they begin."""
    return [ring for start in reached_from(web, place) for ring in rings_at(web, start)]


def triple(walk):
    return (sum(step[2][0] for step in walk), sum(step[2][1] for step in walk), sum(step[3] for step in walk))


def change(walk):
    return sum(step[4] for step in walk)


def cost(prices, amounts):
    return prices[0] * amounts[0] + prices[1] * amounts[1]


def rate(prices, row):
    return Fraction(cost(prices, row), row[2])


def pair(fraction):
    return (fraction.numerator, fraction.denominator)


def least_rate(web, place, prices):
    return min((rate(prices, triple(ring)) for ring in rings_from(web, place)), default=None)


def mean(mix):
    """What the sum of a mix of rows has per tick."""
    total = [sum(row[k] * weight for row, weight in mix.items()) for k in range(3)]
    return Fraction(total[0], total[2]), Fraction(total[1], total[2])


def per_tick(row):
    return Fraction(row[0], row[2]), Fraction(row[1], row[2])


def shares(one, others, strict):
    """Whether at some prices (x, 1 - x), 0 < x < 1, a row costs less than all others, or, if not strict, no more."""
    low, high = Fraction(0), Fraction(1)
    first, second = per_tick(one)
    for row in others:
        a, b = per_tick(row)
        # x * first + (1 - x) * second < x * a + (1 - x) * b
        slope = (first - second) - (a - b)
        gap = b - second
        if slope == 0:
            if gap < 0 or (strict and gap == 0):
                return False
        elif slope > 0:
            high = min(high, gap / slope)
        else:
            low = max(low, gap / slope)
    return low < high or (not strict and low == high and 0 < low < 1)


def can_go(walk, stock):
    for step in walk:
        stock += step[4]
        if stock < 0:
            return False
    return True


def need(walk):
    return next(stock for stock in range(10 ** 6) if can_go(walk, stock))


def most_by_search(web, place, stock):
    """All places one can come to with a stock, with the greatest stock there, None for no greatest."""
    up = web.places() * max([0] + [step[4] for step in web.steps()])
    down = web.places() * max([0] + [-step[4] for step in web.steps()])
    top = stock + up + 2 * down + 10
    seen = {(place, stock)}
    todo = [(place, stock)]
    while todo:
        at, has = todo.pop()
        for step in web.steps():
            if step[0] == at and has + step[4] >= 0:
                stand = (step[1], min(top, has + step[4]))
                if stand not in seen:
                    seen.add(stand)
                    todo.append(stand)
    most = {}
    for at, has in seen:
        most[at] = max(most.get(at, 0), has)
    return {at: None if most[at] > stock + up else most[at] for at in sorted(most)}


def least_ons_by_search(web):
    down = web.places() * max([0] + [-step[4] for step in web.steps()])
    top = 2 * down + 1
    alive = {(place, stock) for place in range(web.places()) for stock in range(top + 1)}
    while True:
        kept = {(place, stock) for place, stock in alive
                if any(step[0] == place and (step[1], min(top, stock + step[4])) in alive for step in web.steps())}
        if kept == alive:
            break
        alive = kept
    return {place: min((stock for at, stock in alive if at == place), default=None) for place in range(web.places())}


def longest_by_search(web, place, stock):
    """The greatest number of steps of a walk with a stock, where there is one."""
    layer = {(place, stock)}
    many = 0
    while True:
        layer = {(step[1], has + step[4]) for at, has in layer for step in web.steps()
                 if step[0] == at and has + step[4] >= 0}
        if not layer:
            return many
        many += 1
