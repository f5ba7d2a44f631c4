import unittest
from fractions import Fraction
from random import Random

from anyaround.errors import BadFraction, BadPlace, BadPrices
from anyaround.rates import best_ring, credit, heights, is_heights, rate_at, ring_below
from anyaround.webs import Web, is_ring

from tests.brute import (W_STEPS, cost, least_rate, non_integers, objects, pair, random_webs, rate, reached_from,
                         rings_from, simple_walks, triple, web_v, web_w)

NO_PRICES = [(0, 1), (1, 0), (-1, 1), (1, -1), (1,), (1, 1, 1), (True, 1), (1, True), "11", {1: 1, 2: 2}, (None, 1),
             ((1, 1), 1), (0, 0)] + non_integers()
NO_FRACTIONS = [(1, 0), (1, -1), (1,), (1, 1, 1), (True, 1), (1, True), "11", {1: 1, 2: 2}, (None, 1), (1, None), 5,
                [1, [1]]] + non_integers()
NO_PLACES = [3, -1, 10 ** 30] + non_integers()
PRICES = [(1, 1), (2, 1), (1, 3), (6, 4), (1000, 1), (7, 1000), (2, 2)]


def holds(web, place, prices, bounds, thing):
    """Whether integers of places are heights."""
    top, bottom = pair(Fraction(*bounds))
    return all(thing[step[1]] - thing[step[0]] <= bottom * cost(prices, step[2]) - top * step[3]
               for step in web.steps() if step[0] in thing)


class RateTest(unittest.TestCase):
    def test_example(self):
        self.assertEqual(rate_at(web_w(), 0, (1, 1)), (2, 1))
        self.assertEqual(rate_at(web_w(), 0, [2, 2]), (4, 1))
        self.assertEqual(rate_at(web_w(), 2, (1, 1)), (3, 1))
        self.assertEqual(rate_at(web_w(), 0, (3, 1)), (3, 1))
        self.assertEqual(rate_at(web=web_w(), place=0, prices=(1, 9)), (3, 1))

    def test_none(self):
        for web, place in ((Web(1, []), 0), (Web(2, [(0, 1, (0, 0), 1, 0), (0, 0, (1, 1), 1, 0)]), 1), (web_v(), 2)):
            self.assertIsNone(rate_at(web, place, (1, 1)))
            self.assertIsNone(best_ring(web, place, (1, 1)))
            self.assertIsNone(credit(web, place, (1, 1)))
            self.assertIsNone(ring_below(web, place, (1, 1), (1000, 1)))
            self.assertIs(type(heights(web, place, (1, 1), (1000, 1))), dict)

    def test_by_all_rings(self):
        for web in random_webs(11, 120):
            for prices in PRICES:
                for place in range(web.places()):
                    least = least_rate(web, place, prices)
                    told = rate_at(web, place, prices)
                    ring = best_ring(web, place, prices)
                    if least is None:
                        self.assertIsNone(told)
                        self.assertIsNone(ring)
                        continue
                    self.assertEqual(told, pair(least))
                    self.assertIs(type(told), tuple)
                    self.assertTrue(is_ring(web, ring))
                    self.assertIs(type(ring), list)
                    self.assertTrue(all(type(step) is tuple for step in ring))
                    self.assertIn(ring[0][0], reached_from(web, place))
                    self.assertEqual(rate(prices, triple(ring)), least)

    def test_below_zero_and_long_ticks(self):
        web = Web(2, [(0, 1, (-9, 4), 6, 0), (1, 0, (1, -9), 5, 0), (0, 0, (-1, -1), 2, 0)])
        self.assertEqual(rate_at(web, 0, (1, 1)), (-13, 11))
        self.assertEqual(rate_at(web, 1, (1, 10)), (-11, 2))

    def test_all_steps_like_dear(self):
        web = Web(2, [(0, 1, (5, 5), 1, 0), (1, 0, (5, 5), 1, 0)])
        self.assertEqual(rate_at(web, 0, (1, 1)), (10, 1))
        web = Web(1, [(0, 0, (-5, -5), 1, 0)])
        self.assertEqual(rate_at(web, 0, (1, 1)), (-10, 1))

    def test_great_web(self):
        random = Random(4)
        steps = {(k, (k + 1) % 80, (random.randint(0, 9), random.randint(0, 9)), random.randint(1, 6), 0)
                 for k in range(80)}
        for _ in range(240):
            steps.add((random.randrange(80), random.randrange(80), (random.randint(0, 9), random.randint(0, 9)),
                       random.randint(1, 6), 0))
        web = Web(80, list(steps))
        told = rate_at(web, 0, (3, 5))
        self.assertEqual(rate((3, 5), triple(best_ring(web, 0, (3, 5)))), Fraction(*told))
        self.assertIsNone(ring_below(web, 0, (3, 5), told))
        self.assertTrue(is_heights(web, 0, (3, 5), told, heights(web, 0, (3, 5), told)))

    def test_errors(self):
        web = web_w()
        for function in (rate_at, best_ring, credit):
            for thing in NO_PLACES:
                with self.assertRaises(BadPlace) as caught:
                    function(web, thing, None)
                self.assertIs(caught.exception.place, thing)
            for thing in NO_PRICES:
                with self.assertRaises(BadPrices) as caught:
                    function(web, 0, thing)
                self.assertIs(caught.exception.thing, thing)
            function(web=web, place=0, prices=[1, 1])


class HeightsTest(unittest.TestCase):
    def test_example(self):
        web = web_w()
        self.assertTrue(is_heights(web, 0, (1, 1), (2, 1), {0: 0, 1: 0, 2: -2}))
        self.assertEqual(sorted(ring_below(web, 0, (1, 1), (5, 2))), sorted(W_STEPS[:2]))
        self.assertIsNone(heights(web, 0, (1, 1), (5, 2)))

    def test_just_one(self):
        for web in random_webs(12, 80):
            for prices in PRICES[:5]:
                for place in range(web.places()):
                    least = least_rate(web, place, prices) or Fraction(3, 2)
                    for bounds in (least - Fraction(1, 97), least, least + Fraction(1, 101), Fraction(0)):
                        top, bottom = pair(bounds)
                        self.check(web, place, prices, (top, bottom))
                        self.assertEqual(heights(web, place, list(prices), [3 * top, 3 * bottom]),
                                         heights(web, place, prices, (top, bottom)))
                        self.assertEqual(ring_below(web, place, list(prices), [3 * top, 3 * bottom]),
                                         ring_below(web, place, prices, (top, bottom)))

    def check(self, web, place, prices, bounds):
        told = heights(web, place, prices, bounds)
        ring = ring_below(web, place, prices, bounds)
        self.assertTrue((told is None) != (ring is None))
        below = [one for one in rings_from(web, place) if rate(prices, triple(one)) < Fraction(*bounds)]
        if ring is not None:
            self.assertTrue(is_ring(web, ring))
            self.assertLess(rate(prices, triple(ring)), Fraction(*bounds))
            self.assertIn(ring[0][0], reached_from(web, place))
        else:
            self.assertEqual(below, [])
            self.assertEqual(list(told), reached_from(web, place))
            self.assertTrue(holds(web, place, prices, bounds, told))
            self.assertIs(is_heights(web, place, prices, bounds, told), True)

    def test_otherwise(self):
        random = Random(9)
        for web in random_webs(13, 60):
            place = random.randrange(web.places())
            prices = random.choice(PRICES)
            least = least_rate(web, place, prices) or Fraction(-1, 2)
            bounds = pair(least)
            told = heights(web, place, prices, bounds)
            for key in told:
                for other in (told[key] + 1, told[key] - 1, told[key] + 1000, told[key] - 10 ** 6):
                    thing = dict(told)
                    thing[key] = other
                    self.assertIs(is_heights(web, place, prices, bounds, thing),
                                  holds(web, place, prices, bounds, thing))
                for other in (None, True, "0", (0,), [], {}):
                    thing = dict(told)
                    thing[key] = other
                    self.assertIs(is_heights(web, place, prices, bounds, thing), False)
                thing = dict(told)
                del thing[key]
                self.assertIs(is_heights(web, place, prices, bounds, thing), False)
                self.assertIs(is_heights(web, place, prices, bounds, {**thing, 99: told[key]}), False)
                thing[str(key)] = told[key]
                self.assertIs(is_heights(web, place, prices, bounds, thing), False)
            self.assertIs(is_heights(web, place, prices, bounds, {**told, 99: 0}), False)
            self.assertIs(is_heights(web, place, prices, bounds, list(told.items())), False)
            shifted = {key: told[key] + 5 for key in reversed(list(told))}
            self.assertIs(is_heights(web, place, prices, bounds, shifted), True)

    def test_bool_keys_and_worths(self):
        web = Web(2, [(0, 1, (0, 0), 1, 0)])
        self.assertIs(is_heights(web, 0, (1, 1), (0, 1), {0: 0, 1: 0}), True)
        self.assertIs(is_heights(web, 0, (1, 1), (0, 1), {False: 0, 1: 0}), False)
        self.assertIs(is_heights(web, 0, (1, 1), (0, 1), {0: 0, True: 0}), False)
        self.assertIs(is_heights(web, 0, (1, 1), (0, 1), {0: False, 1: 0}), False)
        self.assertIs(is_heights(web, 1, (1, 1), (0, 1), {1: 7}), True)
        self.assertIs(is_heights(web, 1, (1, 1), (0, 1), {0: 7, 1: 7}), False)

    def test_lowest_terms_count(self):
        web = Web(1, [(0, 0, (1, 0), 2, 0)])
        # At (2, 4) the rate is (1, 2) in lowest terms.
        self.assertEqual(heights(web, 0, (1, 1), (2, 4)), {0: 0})
        web = Web(2, [(0, 1, (1, 0), 1, 0)])
        self.assertIs(is_heights(web, 0, (1, 1), (2, 4), {0: 0, 1: 1}), True)
        self.assertIs(is_heights(web, 0, (1, 1), (2, 4), {0: 0, 1: 2}), False)

    def test_prices_count_as_passed(self):
        web = Web(2, [(0, 1, (1, 0), 1, 0)])
        self.assertIs(is_heights(web, 0, (3, 3), (0, 1), {0: 0, 1: 3}), True)
        self.assertIs(is_heights(web, 0, (1, 1), (0, 1), {0: 0, 1: 3}), False)

    def test_any_object(self):
        for thing in objects():
            self.assertIs(is_heights(web_w(), 0, (1, 1), (2, 1), thing), False)
        single = Web(1, [])
        for thing in objects():
            good = type(thing) is dict and len(thing) == 1 and list(thing)[0] == 0 and type(list(thing)[0]) is int
            good = good and type(thing[0]) is int
            self.assertIs(is_heights(single, 0, (1, 1), (2, 1), thing), good)

    def test_errors(self):
        web = web_w()
        for function in (heights, ring_below, lambda *xs, **more: is_heights(*xs, thing=5, **more)):
            for thing in NO_PLACES:
                with self.assertRaises(BadPlace) as caught:
                    function(web, thing, None, None)
                self.assertIs(caught.exception.place, thing)
            for thing in NO_PRICES:
                with self.assertRaises(BadPrices) as caught:
                    function(web, 0, thing, None)
                self.assertIs(caught.exception.thing, thing)
            for thing in NO_FRACTIONS:
                with self.assertRaises(BadFraction) as caught:
                    function(web, 0, (1, 1), thing)
                self.assertIs(caught.exception.thing, thing)
            function(web=web, place=0, prices=[1, 1], rate=[0, 7])
        self.assertFalse(is_heights(web=web, place=0, prices=[1, 1], rate=[0, 7], thing={}))


class CreditTest(unittest.TestCase):
    def test_example(self):
        self.assertEqual(credit(web_w(), 0, (1, 1)), (2, 1))

    def test_zero(self):
        self.assertEqual(credit(Web(1, [(0, 0, (1, 1), 3, 0)]), 0, (1, 1)), (0, 1))
        self.assertEqual(credit(web_w(), 2, (5, 7)), (0, 1))

    def test_by_simple_walks(self):
        for web in random_webs(14, 120):
            for prices in PRICES:
                for place in range(web.places()):
                    least = least_rate(web, place, prices)
                    if least is None:
                        self.assertIsNone(credit(web, place, prices))
                        continue
                    lack = max(least * triple(walk)[2] - cost(prices, triple(walk))
                               for walk in simple_walks(web, place))
                    self.assertEqual(credit(web, place, prices), pair(max(Fraction(0), lack)))


if __name__ == "__main__":
    unittest.main()
