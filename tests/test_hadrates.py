import unittest
from fractions import Fraction
from math import gcd
from random import Random

from anyaround.errors import BadBudget, BadPlace
from anyaround.hadrates import mix_within, prices_over
from anyaround.webs import Web, lots

from tests.brute import (W_STEPS, mean, non_integers, objects, per_tick, random_webs, reached_from, rings_from, triple,
                         web_v, web_w)


def bound(thing):
    return None if thing is None else Fraction(*thing)


def rows_by_lots(web, place):
    """The rows of the rings of all lots that are reached, not divided."""
    reached = reached_from(web, place)
    found = []
    for lot in lots(web):
        if lot[0] in reached:
            found.append((lot, {triple(ring) for ring in rings_from(web, lot[0])
                                if all(step[0] in lot and step[1] in lot for step in ring)}))
    return found


def divided(row):
    return tuple(number // gcd(*row) for number in row)


class HadTest(unittest.TestCase):
    def test_example(self):
        web = web_w()
        self.assertEqual(mix_within(web, 0, ((1, 2), (2, 1))), ([0, 1], {(0, 3, 1): 1, (1, 1, 1): 1}))
        self.assertIsNone(prices_over(web, 0, ((1, 2), (2, 1))))
        self.assertIsNone(mix_within(web, 0, ((1, 2), (1, 1))))
        over = prices_over(web, 0, ((1, 2), (1, 1)))
        self.assertEqual(list(over), [0, 2])
        self.check_over(web, 0, ((1, 2), (1, 1)), over)

    def test_none_in_a_place(self):
        web = web_w()
        self.assertEqual(mix_within(web, 0, (None, None))[0], [0, 1])
        self.assertIsNone(prices_over(web, 0, (None, None)))
        self.assertEqual(mix_within(web, 0, ((0, 1), None)), ([0, 1], {(0, 3, 1): 1}))
        self.assertEqual(mix_within(web, 0, (None, (0, 1))), ([2], {(3, 0, 1): 1}))
        self.assertEqual(prices_over(web, 0, ((-1, 9), None)), {0: (1, 0), 2: (1, 0)})
        self.assertEqual(prices_over(web, 0, (None, (-1, 9))), {0: (0, 1), 2: (0, 1)})
        self.assertEqual(prices_over(web, 2, ([5, 2], None)), {2: (1, 0)})
        self.assertIsNone(mix_within(web, 2, ([5, 2], None)))

    def test_without_rings(self):
        for web, place in ((Web(1, []), 0), (web_v(), 2)):
            for budget in ((None, None), ((1, 1), (1, 1)), (None, (-3, 2)), [[5, 1], None]):
                self.assertIsNone(mix_within(web, place, budget))
                self.assertEqual(prices_over(web, place, budget), {})

    def test_not_of_both_lots(self):
        # (1, 0) and (0, 1) lie in unlike lots, so nothing between can be had.
        web = Web(2, [(0, 0, (2, 0), 1, 0), (0, 1, (0, 0), 1, 0), (1, 1, (0, 2), 1, 0)])
        self.assertIsNone(mix_within(web, 0, ((1, 1), (1, 1))))
        self.assertEqual(prices_over(web, 0, ((1, 1), (1, 1))), {0: (1, 0), 1: (0, 1)})
        same = Web(2, web.steps() + [(1, 0, (9, 9), 1, 0)])
        self.assertEqual(mix_within(same, 0, ((1, 1), (1, 1))), ([0, 1], {(0, 2, 1): 1, (2, 0, 1): 1}))

    def check_over(self, web, place, budget, over):
        bounds = [bound(thing) for thing in budget]
        self.assertEqual(list(over), [lot[0] for lot, _ in rows_by_lots(web, place)])
        for lot, rows in rows_by_lots(web, place):
            p, q = over[lot[0]]
            self.assertTrue(type(p) is int and type(q) is int and p >= 0 and q >= 0 and gcd(p, q) == 1)
            self.assertTrue(bounds[0] is not None or p == 0)
            self.assertTrue(bounds[1] is not None or q == 0)
            at = p * (bounds[0] or 0) + q * (bounds[1] or 0)
            for row in rows:
                first, second = per_tick(row)
                self.assertGreater(p * first + q * second, at)

    def check(self, web, place, budget):
        told = mix_within(web, place, budget)
        over = prices_over(web, place, budget)
        self.assertTrue((told is None) != (over is None))
        if told is None:
            self.check_over(web, place, budget, over)
            return
        lot, mix = told
        self.assertIs(type(told), tuple)
        rows = {divided(row) for row in dict((tuple(lot), rows) for lot, rows in rows_by_lots(web, place))[tuple(lot)]}
        self.assertIs(type(lot), list)
        self.assertTrue(1 <= len(mix) <= 2 and all(row in rows for row in mix))
        self.assertEqual(list(mix), sorted(mix))
        self.assertTrue(all(weight > 0 for weight in mix.values()))
        self.assertEqual(gcd(*mix.values()), 1)
        for has, thing in zip(mean(mix), budget):
            self.assertTrue(thing is None or has <= Fraction(*thing))

    def test_just_one(self):
        random = Random(31)
        for web in random_webs(32, 90) + random_webs(33, 60, amount=3, ticks=2):
            place = random.randrange(web.places())
            budgets = [(None, None), ((0, 3), (0, 1)), ((200, 1), (200, 1)), ((-200, 1), (-200, 1)),
                       ((-200, 1), None), (None, (-200, 1)), ((200, 1), None), (None, (200, 1))]
            for _, rows in rows_by_lots(web, place):
                some = sorted(rows)
                for _ in range(8):
                    one, other = random.choice(some), random.choice(some)
                    first, second = mean({one: random.randint(1, 3), other: random.randint(1, 3)}
                                         if one != other else {one: 1})
                    for less in (0, Fraction(1, 20), Fraction(-1, 20)):
                        low = ((first - less).numerator, (first - less).denominator)
                        high = ((second - less).numerator * 2, (second - less).denominator * 2)
                        budgets += [(low, high), [list(low), list(high)], (low, None), (None, high)]
            for budget in budgets:
                self.check(web, place, budget)

    def test_same_for_what_means_the_same(self):
        web = web_w()
        for function in (mix_within, prices_over):
            for budget, other in ((((1, 2), (2, 1)), [[2, 4], [10, 5]]), (((1, 2), None), [[5, 10], None]),
                                  (((1, 2), (1, 1)), ([3, 6], (7, 7))), (((0, 1), (0, 1)), ((0, 5), (0, 9)))):
                self.assertEqual(function(web, 0, budget), function(Web(3, W_STEPS[::-1]), 0, other))
            self.assertEqual(function(web=web, place=2, budget=(None, (1, 1))), function(web, 2, (None, [1, 1])))

    def test_new_each_time(self):
        web = web_w()
        lot, mix = mix_within(web, 0, (None, None))
        lot.append(7)
        mix.clear()
        self.assertEqual(mix_within(web, 0, (None, None))[0], [0, 1])
        self.assertTrue(mix_within(web, 0, (None, None))[1])

    def test_errors(self):
        web = web_w()
        for function in (mix_within, prices_over):
            for thing in [3, -1] + non_integers():
                with self.assertRaises(BadPlace) as caught:
                    function(web, thing, "no budget")
                self.assertIs(caught.exception.place, thing)
            for thing in objects() + [((1, 1),), ((1, 1), (1, 1), (1, 1)), ((1, 0), (1, 1)), ((1, 1), (1, -1)),
                                      ((1, 1), (1, True)), ((False, 1), None), (None, 5), (5, None), (None, "ab"),
                                      (None, ()), ((1, 1, 1), None), (None, (None, 1)), "ab", {0: None, 1: None}]:
                with self.assertRaises(BadBudget) as caught:
                    function(web, 0, thing)
                self.assertIs(caught.exception.budget, thing)
            with self.assertRaises(BadBudget):
                function(Web(1, []), 0, (None, 5))


if __name__ == "__main__":
    unittest.main()
