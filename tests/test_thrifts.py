"""Promises [20.1] to [20.6]: cheap, and never empty."""

import unittest
from fractions import Fraction
from math import gcd
from random import Random

from anyaround.errors import BadFraction, BadPlace, BadPrices, BadStock
from anyaround.plans import plan_rates
from anyaround.rates import rate_at
from anyaround.stairs import covers
from anyaround.stocks import least_on, way_on
from anyaround.thrifts import is_thrift_paper, thrift, thrift_paper, thrift_stairs, thrifty
from anyaround.webs import Web, is_ring, lots

from tests.brute import (change, cost, need, non_integers, objects, pair, random_web, reached_from, rings_at, triple,
                         web_w)
from tests.plain_programs import turned
from tests.test_plans import NO_FRACTIONS, NO_PRICES

X = Web(3, [(0, 1, (5, 0), 1, 0), (1, 0, (5, 0), 1, 0), (1, 1, (1, 0), 1, -1), (0, 2, (0, 0), 1, -3),
            (2, 2, (6, 0), 1, 2), (2, 0, (0, 0), 1, 0)])
PAPER = ({0: None, 1: None, 2: None}, {}, {0: (1, 12, {0: 0, 1: 0, 2: 18})})
LESS = ({0: 2, 1: 2}, {0: 0, 1: 0}, {})
ONE = (1, 1)


def plainly(web, place, prices, stock):
    """Thrift as [20.2] tells it, by all rings."""
    most = covers(web, place, stock)
    found = []
    for ring in [ring for at in most for ring in rings_at(web, at)]:
        at = ring[0][0]
        if change(ring) == 0 and (most[at] is None or most[at] >= need(ring)):
            found.append(Fraction(cost(prices, triple(ring)), triple(ring)[2]))
    for lot in lots(web):
        if lot[0] in most and most[lot[0]] is None:
            rounds = {(cost(prices, triple(ring)), change(ring), triple(ring)[2]) for at in lot for ring in rings_at(web, at)}
            for paid, gained, ticks in rounds:
                if gained >= 0:
                    found.append(Fraction(paid, ticks))
                for more, lost, long in rounds:
                    if gained > 0 > lost:
                        found.append(Fraction(paid * -lost + more * gained, ticks * -lost + long * gained))
    return min(found, default=None)


def stands_plainly(web, place, prices, stock, top):
    """The least rate of rings among stands, places with stocks up to a top, that can be come to."""
    seen, todo, arrows = {(place, stock)}, [(place, stock)], {}
    while todo:
        stand = todo.pop()
        arrows[stand] = []
        for step in web.steps():
            has = min(top, stand[1] + step[4])
            if step[0] == stand[0] and has >= 0:
                arrows[stand].append(((step[1], has), cost(prices, step[2]), step[3]))
                if (step[1], has) not in seen:
                    seen.add((step[1], has))
                    todo.append((step[1], has))
    best = None
    top_of, bottom = 10 ** 6, 1
    while True:
        # A ring below the rate, by lowering sums as often as there are stands.
        sums, came = {stand: 0 for stand in arrows}, {}
        for _ in range(len(arrows) + 1):
            late = None
            for stand in arrows:
                for other, paid, ticks in arrows[stand]:
                    if sums[stand] + bottom * paid - top_of * ticks < sums[other]:
                        sums[other] = sums[stand] + bottom * paid - top_of * ticks
                        came[other] = (stand, paid, ticks)
                        late = other
            if late is None:
                return best
        for _ in arrows:
            late = came[late][0]
        total, long, at = 0, 0, late
        while True:
            at, paid, ticks = came[at]
            total, long = total + paid, long + ticks
            if at == late:
                break
        best = Fraction(total, long)
        top_of, bottom = pair(best)


def cases(seed, many, **more):
    random = Random(seed)
    for _ in range(many):
        web = random_web(random, random.randint(1, 5), random.randint(1, 11),
                         **{**{"amount": 6, "ticks": 4, "change": 4}, **more})
        yield web, random.randrange(web.places()), (random.randint(1, 4), random.randint(1, 4))


class ThriftTest(unittest.TestCase):
    def test_plainly(self):
        for web, place, prices in cases(111, 120):
            for stock in range(0, 20, 2):
                expected = plainly(web, place, prices, stock)
                told = thrift(web, place, list(prices), stock)
                self.assertEqual(told, None if expected is None else pair(expected))
                least = least_on(web, place)
                self.assertEqual(told is None, least is None or stock < least)
                if told is not None:
                    self.assertGreaterEqual(Fraction(*told), Fraction(*rate_at(web, place, prices)))
                    doubled = thrift(web, place, (2 * prices[0], 2 * prices[1]), stock)
                    self.assertEqual(Fraction(*doubled), 2 * Fraction(*told))

    def test_by_stands(self):
        # Among stands with few stocks nothing is cheaper than thrift; with more of them it comes near to it.
        for web, place, prices in cases(112, 25, change=2, amount=3, ticks=2):
            for stock in (0, 3):
                told = thrift(web, place, prices, stock)
                near = [stands_plainly(web, place, prices, stock, top) for top in (8, 24)]
                self.assertEqual(told is None, near[1] is None)
                if told is not None:
                    self.assertTrue(Fraction(*told) <= near[1])
                    self.assertLessEqual(near[1] - Fraction(*told), Fraction(3, 2))
                    if near[0] is not None:
                        self.assertLessEqual(near[1], near[0])

    def test_thrifty(self):
        for web, place, prices in cases(113, 150):
            for stock in (0, 2, 5, 11, 1000):
                told, rate = thrifty(web, place, turned(prices), stock), thrift(web, place, prices, stock)
                self.assertEqual(told is None, rate is None)
                if told is None:
                    continue
                self.assertIn(len(told), (1, 2))
                self.assertEqual(gcd(*[times for _, times in told]), 1)
                most = covers(web, place, stock)
                for ring, times in told:
                    self.assertTrue(is_ring(web, ring) and times >= 1)
                paid = sum(times * cost(prices, triple(ring)) for ring, times in told)
                self.assertEqual(pair(Fraction(paid, sum(times * triple(ring)[2] for ring, times in told))), rate)
                if all(most[ring[0][0]] is None for ring, _ in told):
                    self.assertGreaterEqual(sum(times * change(ring) for ring, times in told), 0)
                    self.assertEqual(len({next(lot[0] for lot in lots(web) if ring[0][0] in lot) for ring, _ in told}), 1)
                else:
                    (ring, times), = told
                    self.assertEqual((change(ring), times), (0, 1))
                    self.assertGreaterEqual(most[ring[0][0]], need(ring))
                if len(told) == 2:
                    self.assertNotEqual(told[0][0], told[1][0])

    def test_stairs(self):
        for web, place, prices in cases(114, 150):
            told = thrift_stairs(web, place, prices)
            self.assertEqual(told[0][0] if told else None, least_on(web, place))
            for (need_one, rate_one), (need_other, rate_other) in zip(told, told[1:]):
                self.assertLess(need_one, need_other)
                self.assertGreater(Fraction(*rate_one), Fraction(*rate_other))
            for stock in list(range(24)) + [1000]:
                rates = [rate for least, rate in told if least <= stock]
                self.assertEqual(thrift(web, place, prices, stock), rates[-1] if rates else None)

    def test_where_nothing_loses(self):
        for web, place, prices in cases(115, 60):
            web = Web(web.places(), list({step[:4] + (abs(step[4]),): 1 for step in web.steps()}))
            self.assertEqual(thrift(web, place, prices, 0), rate_at(web, place, prices))
            if rate_at(web, place, prices) is not None:
                self.assertEqual(thrift_stairs(web, place, prices), [(0, rate_at(web, place, prices))])

    def test_no_rings(self):
        for web in (Web(1, []), Web(2, [(0, 1, (1, 1), 1, 5)]), Web(1, [(0, 0, (1, 1), 1, -1)])):
            for stock in (0, 1000):
                self.assertIsNone(thrift(web, 0, ONE, stock))
                self.assertIsNone(thrifty(web, 0, ONE, stock))
                for rate in ((-5, 1), (999, 1)):
                    told = thrift_paper(web, 0, ONE, stock, rate)
                    self.assertTrue(is_thrift_paper(web, 0, ONE, stock, rate, told))
            self.assertEqual(thrift_stairs(web, 0, ONE), [])

    def test_one_ring(self):
        gaining, even = Web(1, [(0, 0, (1, 1), 2, 3)]), Web(2, [(0, 1, (3, 0), 1, -4), (1, 0, (1, 0), 1, 4)])
        self.assertEqual(thrift_stairs(gaining, 0, ONE), [(0, (1, 1))])
        self.assertEqual(thrifty(gaining, 0, ONE, 0), [(gaining.steps(), 1)])
        self.assertEqual(thrift_stairs(even, 0, (2, 1)), [(4, (4, 1))])
        self.assertEqual(thrift_stairs(even, 1, (2, 1)), [(0, (4, 1))])
        self.assertIsNone(thrift(even, 0, ONE, 3))

    def test_no_walk_is_cheaper(self):
        for web, place, prices in cases(116, 60):
            least = least_on(web, place)
            if least is not None:
                walk, ring = way_on(web, place, least)
                rates = plan_rates(web, place, ([(walk, 1)], ring))
                paid = prices[0] * Fraction(*rates[0]) + prices[1] * Fraction(*rates[1])
                self.assertLessEqual(Fraction(*thrift(web, place, prices, least)), paid)

    def test_example(self):
        self.assertEqual(rate_at(X, 0, ONE), (0, 1))
        self.assertEqual(thrift_stairs(X, 0, ONE), [(0, (5, 1)), (3, (18, 7))])
        told = thrifty(X, 0, ONE, 3)
        self.assertEqual(sorted((len(ring), times) for ring, times in told), [(1, 3), (2, 2)])
        for stock in (0, 1, 5, 1000):
            self.assertEqual(thrift(web_w(), 0, ONE, stock), (2, 1))
            self.assertEqual(thrift(web_w(), 0, (3, 1), stock), (4, 1))
        self.assertEqual(rate_at(web_w(), 0, (3, 1)), (3, 1))
        self.assertEqual(thrift(web_w(), 2, (3, 1), 0), (9, 1))


class PaperTest(unittest.TestCase):
    def test_just_one(self):
        random = Random(117)
        for web, place, prices in cases(118, 120):
            for stock in (0, 1, 4, 9, 60):
                least = thrift(web, place, prices, stock)
                rates = [(random.randint(-20, 20), random.randint(1, 9))]
                if least is not None:
                    top, bottom = least
                    rates += [least, (3 * top, 3 * bottom), (50 * top - 1, 50 * bottom), (50 * top + 1, 50 * bottom),
                              (top + 3, bottom), (top - 9, bottom)]
                for rate in rates:
                    told = thrift_paper(web, place, prices, stock, rate)
                    short = least is not None and Fraction(*least) < Fraction(*rate)
                    self.assertEqual(told is None, short)
                    if told is not None:
                        self.check(web, place, prices, stock, rate, told)

    def check(self, web, place, prices, stock, rate, told):
        most, levels, in_lots = told
        self.assertIs(is_thrift_paper(web, place, prices, stock, rate, told), True)
        self.assertIs(is_thrift_paper(web, place, prices, stock, rate, turned(told)), True)
        self.assertTrue(is_paper_plainly(web, prices, rate, told))
        self.assertEqual([list(most), list(levels), list(in_lots)], [sorted(most), sorted(levels), sorted(in_lots)])
        self.assertEqual(type(told), tuple)
        self.assertEqual(thrift_paper(web, place, turned(prices), stock, (2 * rate[0], 2 * rate[1])), told)
        for number in range(3):
            for thing in (None, [], {}, {**told[number], "x": 1}, {**told[number], 99: 0}, list(told[number].items())):
                if thing != told[number]:
                    near = told[:number] + (thing,) + told[number + 1:]
                    self.assertIs(is_thrift_paper(web, place, prices, stock, rate, near), False)

    def test_otherwise(self):
        random = Random(119)
        changed = [0, 0]
        for web, place, prices in cases(120, 100):
            stock = random.choice([0, 2, 8])
            rate = thrift(web, place, prices, stock) or (random.randint(-5, 5), 2)
            most, levels, in_lots = thrift_paper(web, place, prices, stock, rate)
            for _ in range(12):
                near = ({key: has for key, has in most.items()}, dict(levels),
                        {key: (many, worth, dict(heights)) for key, (many, worth, heights) in in_lots.items()})
                self.change(random, near)
                right = is_paper_plainly(web, prices, rate, near) and covers_plainly(web, place, stock, near[0])
                self.assertIs(is_thrift_paper(web, place, prices, stock, rate, near), right)
                changed[right] += 1
        self.assertTrue(min(changed) > 30, changed)

    def change(self, random, paper):
        """Change one thing in a paper."""
        most, levels, in_lots = paper
        sort = random.random()
        by = random.choice([-3, -1, 1, 2])
        if sort < 0.3:
            key = random.choice(list(most))
            most[key] = random.choice([None, 0, 50]) if most[key] is None else random.choice([None, most[key] + abs(by)])
        elif sort < 0.6 and levels:
            levels[random.choice(list(levels))] += by
        elif in_lots:
            key = random.choice(list(in_lots))
            many, worth, heights = in_lots[key]
            heights[random.choice(list(heights))] += by
            in_lots[key] = random.choice([(many, worth, heights), (many + by, worth, in_lots[key][2]), (many, worth + by, heights)])

    def test_greater_covers(self):
        seen = 0
        for web, place, prices in cases(121, 150):
            rate = thrift(web, place, prices, 1)
            if rate is None:
                continue
            far = thrift(web, place, prices, 50)
            if far == rate:
                # What does with a stock of 50 does with less of it.
                told = thrift_paper(web, place, prices, 50, rate)
                self.assertTrue(is_thrift_paper(web, place, prices, 1, rate, told))
                seen += 1
            told = thrift_paper(web, place, prices, 1, rate)
            more = Web(web.places() + 1, web.steps())
            self.assertTrue(is_thrift_paper(more, place, prices, 1, rate, ({**told[0], web.places(): 7}, {
                **told[1], web.places(): -5}, told[2])))
            self.assertFalse(is_thrift_paper(more, place, prices, 1, rate, ({**told[0], web.places(): 7}, told[1], told[2])))
        self.assertGreater(seen, 20)

    def test_all_lose(self):
        # What loses in its lot can not be gone for ever, plenty or not.
        web = Web(2, [(0, 0, (9, 9), 1, 1), (0, 1, (0, 0), 1, 0), (1, 1, (0, 0), 1, -1)])
        self.assertEqual(thrift(web, 0, ONE, 0), (18, 1))
        told = thrift_paper(web, 0, ONE, 0, (18, 1))
        self.assertTrue(is_thrift_paper(web, 0, ONE, 0, (18, 1), told))
        self.assertIsNone(thrift(web, 1, ONE, 1000))
        self.assertTrue(is_thrift_paper(web, 1, ONE, 9, (10 ** 6, 1), thrift_paper(web, 1, ONE, 9, (10 ** 6, 1))))
        self.assertEqual(thrift_stairs(web, 1, ONE), [])

    def test_any_object(self):
        for thing in objects() + [PAPER + (1,), PAPER[:2], {0: PAPER}, (PAPER[0], PAPER[1])]:
            self.assertIs(is_thrift_paper(X, 0, ONE, 3, (18, 7), thing), False)
            for number in range(3):
                if thing != PAPER[number]:
                    near = PAPER[:number] + (thing,) + PAPER[number + 1:]
                    self.assertIs(is_thrift_paper(X, 0, ONE, 3, (18, 7), near), False)
            self.assertIs(is_thrift_paper(X, 0, ONE, 3, (18, 7), (PAPER[0], {}, {0: thing})), False)
            self.assertIs(is_thrift_paper(X, 0, ONE, 3, (18, 7), (PAPER[0], {}, {0: (1, 12, thing)})), False)
        for many, worth, heights in ((True, 12, PAPER[2][0][2]), (0, 12, PAPER[2][0][2]), (1, -12, PAPER[2][0][2]),
                                     (1, 12, {0: 0, True: 0, 2: 18}), (1, 12, {0: False, 1: 0, 2: 18}), (1, 12, {0: 0, 2: 18})):
            self.assertFalse(is_thrift_paper(X, 0, ONE, 3, (18, 7), (PAPER[0], {}, {0: (many, worth, heights)})))
        self.assertTrue(is_thrift_paper(X, 0, ONE, 3, (18, 7), [PAPER[0], {}, {0: [5, 60, {0: 1, 1: 1, 2: 91}]}]))

    def test_example(self):
        self.assertIs(is_thrift_paper(X, 0, ONE, 3, (18, 7), PAPER), True)
        self.assertIs(is_thrift_paper(X, 0, ONE, 2, (5, 1), LESS), True)
        self.assertIs(is_thrift_paper(X, 0, ONE, 3, (5, 1), LESS), False)
        self.assertIs(is_thrift_paper(X, 0, ONE, 2, (51, 10), LESS), False)
        self.assertIs(is_thrift_paper(X, 0, ONE, 3, (36, 14), PAPER), True)
        self.assertIs(is_thrift_paper(X, 0, ONE, 3, (19, 7), PAPER), False)


def covers_plainly(web, place, stock, most):
    """Whether a dict from places is a cover."""
    if place not in most or (most[place] is not None and most[place] < stock):
        return False
    for step in web.steps():
        if step[0] in most:
            has = most[step[0]]
            if has is None and (step[1] not in most or most[step[1]] is not None):
                return False
            if has is not None and has + step[4] >= 0 and (step[1] not in most or (
                    most[step[1]] is not None and most[step[1]] < has + step[4])):
                return False
    return all(has is None or has >= 0 for has in most.values())


def is_paper_plainly(web, prices, rate, paper):
    """Whether a paper with a cover is right, as [20.5] tells it."""
    most, levels, in_lots = paper
    top, bottom = pair(Fraction(*rate))
    if set(levels) != {place for place in most if most[place] is not None}:
        return False
    for step in web.steps():
        if step[0] in levels and step[1] in levels and most[step[1]] == most[step[0]] + step[4]:
            if levels[step[1]] - levels[step[0]] > bottom * cost(prices, step[2]) - top * step[3]:
                return False
    asked = [lot for lot in lots(web) if all(place in most and most[place] is None for place in lot)]
    if set(in_lots) != {lot[0] for lot in asked}:
        return False
    for lot in asked:
        many, worth, heights = in_lots[lot[0]]
        if many < 1 or worth < 0 or set(heights) != set(lot):
            return False
        for step in web.steps():
            if step[0] in lot and step[1] in lot:
                above = many * (bottom * cost(prices, step[2]) - top * step[3]) - worth * step[4]
                if heights[step[1]] - heights[step[0]] > above:
                    return False
    return True


class ErrorsTest(unittest.TestCase):
    def calls(self, place, prices, stock, rate):
        return [lambda: thrift(X, place, prices, stock), lambda: thrifty(X, place, prices, stock),
                lambda: thrift_paper(X, place, prices, stock, rate),
                lambda: is_thrift_paper(X, place, prices, stock, rate, None), lambda: thrift_stairs(X, place, prices)]

    def test_in_order(self):
        for place in non_integers() + [-1, 3]:
            for call in self.calls(place, None, None, None):
                with self.assertRaises(BadPlace) as caught:
                    call()
                self.assertIs(caught.exception.place, place)
        for prices in NO_PRICES:
            for call in self.calls(0, prices, None, None):
                with self.assertRaises(BadPrices) as caught:
                    call()
                self.assertIs(caught.exception.thing, prices)
        for stock in non_integers() + [-1]:
            for call in self.calls(0, ONE, stock, None)[:4]:
                with self.assertRaises(BadStock) as caught:
                    call()
                self.assertIs(caught.exception.stock, stock)
        for rate in NO_FRACTIONS:
            for call in self.calls(0, ONE, 0, rate)[2:4]:
                with self.assertRaises(BadFraction) as caught:
                    call()
                self.assertIs(caught.exception.thing, rate)
        self.assertEqual(len(reached_from(X, 0)), 3)


if __name__ == "__main__":
    unittest.main()
