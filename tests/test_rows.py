import unittest
from fractions import Fraction
from math import gcd

from anyaround.errors import BadPlace, BadRow
from anyaround.rates import rate_at
from anyaround.rows import bends, best_rows, mix_under, prices_for, rows_of
from anyaround.webs import Web

from tests.brute import (mean, non_integers, objects, pair, per_tick, random_webs, rate, rings_from, shares, triple,
                         web_v, web_w)


def all_rows(web, place):
    """All rows of rings, sorted."""
    found = set()
    for ring in rings_from(web, place):
        one = triple(ring)
        common = gcd(*one)
        found.add(tuple(number // common for number in one))
    return sorted(found, key=per_tick)


class RowsTest(unittest.TestCase):
    def test_example(self):
        web = web_w()
        self.assertEqual(rows_of(web, 0), [(0, 3, 1), (1, 1, 1), (3, 0, 1)])
        self.assertEqual(best_rows(web, 0), [(0, 3, 1), (1, 1, 1), (3, 0, 1)])
        self.assertEqual(bends(web, 0), [(2, 1), (1, 2)])
        self.assertEqual(rows_of(web=web, place=2), [(3, 0, 1)])
        self.assertEqual(bends(web=web, place=2), [])
        self.assertEqual(best_rows(web=web, place=2), [(3, 0, 1)])

    def test_without_rings(self):
        for function in (rows_of, best_rows, bends):
            self.assertEqual(function(Web(1, []), 0), [])
            self.assertEqual(function(web_v(), 2), [])

    def test_ties(self):
        # (2, 2) lies on the line between (0, 4) and (4, 0), (0, 5) above (0, 4), (5, 0) beside (4, 0).
        web = Web(1, [(0, 0, amounts, 1, 0) for amounts in [(0, 4), (0, 5), (2, 2), (4, 0), (5, 0), (3, 3)]]
                  + [(0, 0, (0, 8), 2, 3), (0, 0, (4, 4), 2, 0)])
        self.assertEqual(rows_of(web, 0), [(0, 4, 1), (0, 5, 1), (2, 2, 1), (3, 3, 1), (4, 0, 1), (5, 0, 1)])
        self.assertEqual(best_rows(web, 0), [(0, 4, 1), (4, 0, 1)])
        self.assertEqual(bends(web, 0), [(1, 1)])
        self.assertEqual(prices_for(web, 0, (2, 2, 1)), (1, 1))
        self.assertIsNone(prices_for(web, 0, (0, 5, 1)))
        self.assertEqual(mix_under(web, 0, (0, 5, 1)), {(0, 4, 1): 1})
        self.assertEqual(mix_under(web, 0, (3, 3, 1)), {(0, 4, 1): 1, (4, 0, 1): 3})

    def test_ties_below_the_line_of_both_ends(self):
        # At (1, 1) all of (2, 4), (3, 3), (4, 2) are cheapest.
        for others in ([(2, 4), (3, 3), (4, 2)], [(3, 3), (2, 4), (4, 2)]):
            for ticks in ((1, 1, 1), (1, 2, 1), (2, 1, 2), (3, 2, 1)):
                steps = [(0, 0, (0, 9), 1, 0), (0, 0, (9, 0), 1, 0)]
                steps += [(0, 0, (a * t, b * t), t, -t) for (a, b), t in zip(others, ticks)]
                web = Web(1, steps)
                self.assertEqual(best_rows(web, 0), [(0, 9, 1), (2, 4, 1), (4, 2, 1), (9, 0, 1)])
                self.assertEqual(bends(web, 0), [(5, 2), (1, 1), (2, 5)])
                self.assertEqual(prices_for(web, 0, (3, 3, 1)), (1, 1))
                self.assertIsNone(mix_under(web, 0, (3, 3, 1)))

    def test_ends_that_differ_by_little(self):
        # 4 / 29 is by less than a thousandth below 5 / 36.
        web = Web(1, [(0, 0, (5, -324), 36, 0), (0, 0, (4, 261), 29, 0)])
        self.assertEqual(best_rows(web, 0), [(4, 261, 29), (5, -324, 36)])
        web = Web(1, [(0, 0, (-324, 5), 36, 0), (0, 0, (261, 4), 29, 0), (0, 0, (261, 5), 29, 0)])
        self.assertEqual(best_rows(web, 0), [(-324, 5, 36), (261, 4, 29)])
        web = Web(6, [(0, 1, (0, 9), 6, 0), (1, 0, (0, 9), 6, 0), (1, 2, (0, 9), 6, 0), (2, 3, (0, 9), 6, 0),
                      (3, 4, (0, 9), 6, 0), (4, 5, (1, 9), 6, 0), (5, 0, (0, 9), 6, 0), (5, 0, (0, -9), 5, 0),
                      (1, 1, (1, -9), 5, 0), (5, 5, (2, -9), 6, 0)])
        rows = all_rows(web, 0)
        self.assertEqual(best_rows(web, 0), [row for row in rows
                                             if shares(row, [one for one in rows if one != row], True)])

    def test_order_by_ticks(self):
        web = Web(1, [(0, 0, (1, 0), 2, 0), (0, 0, (1, 0), 3, 0), (0, 0, (-1, 4), 5, 0), (0, 0, (1, 7), 2, 0),
                      (0, 0, (2, 1), 4, 0)])
        self.assertEqual(rows_of(web, 0), [(-1, 4, 5), (1, 0, 3), (1, 0, 2), (2, 1, 4), (1, 7, 2)])
        self.assertEqual(best_rows(web, 0), [(-1, 4, 5), (1, 0, 3)])

    def test_below_zero(self):
        web = Web(1, [(0, 0, (-9, 9), 1, 0), (0, 0, (9, -9), 1, 0), (0, 0, (-1, -1), 1, 0), (0, 0, (0, 0), 1, 0)])
        self.assertEqual(best_rows(web, 0), [(-9, 9, 1), (-1, -1, 1), (9, -9, 1)])
        self.assertEqual(bends(web, 0), [(5, 4), (4, 5)])

    def test_new_each_time(self):
        web = web_w()
        for function in (rows_of, best_rows, bends):
            told = function(web, 0)
            kept = list(told)
            told.append(3)
            self.assertEqual(function(web, 0), kept)
            self.assertTrue(all(type(one) is tuple for one in kept))

    def test_by_all_rings(self):
        for web in random_webs(21, 150) + random_webs(22, 50, amount=2, ticks=2):
            for place in range(web.places()):
                rows = all_rows(web, place)
                self.assertEqual(rows_of(web, place), rows)
                best = [row for row in rows if shares(row, [one for one in rows if one != row], True)]
                self.assertEqual(best_rows(web, place), best)
                self.check_bends(web, place, best)

    def check_bends(self, web, place, best):
        told = bends(web, place)
        self.assertEqual(len(told), max(0, len(best) - 1))
        for k, prices in enumerate(told):
            self.assertTrue(prices[0] > 0 and prices[1] > 0 and gcd(*prices) == 1)
            least = min(rate(prices, row) for row in best)
            self.assertEqual(rate(prices, best[k]), least)
            self.assertEqual(rate(prices, best[k + 1]), least)
            self.assertEqual(rate_at(web, place, prices), pair(least))

    def test_bad_place(self):
        for function in (rows_of, best_rows, bends):
            for thing in [3, -1] + non_integers():
                with self.assertRaises(BadPlace) as caught:
                    function(web_w(), thing)
                self.assertIs(caught.exception.place, thing)

    def test_great_web(self):
        steps = []
        for k in range(60):
            steps.append((k, (k + 1) % 60, (k % 10, 9 - k % 7), 1 + k % 6, 0))
            steps.append((k, (k * 7 + 3) % 60, (k % 4, k % 9), 1 + k % 3, 0))
            steps.append((k, (k * 11 + 5) % 60, (9 - k % 9, k % 5), 2, 0))
        web = Web(60, steps)
        best = best_rows(web, 0)
        for prices in ((1, 1), (1, 50), (50, 1), (2, 3), (10 ** 6, 1)):
            self.assertEqual(Fraction(*rate_at(web, 0, prices)), min(rate(prices, row) for row in best))


class MixesTest(unittest.TestCase):
    def test_just_one(self):
        for web in random_webs(23, 100) + random_webs(24, 60, amount=2, ticks=2):
            for place in range(web.places()):
                rows = all_rows(web, place)
                best = best_rows(web, place)
                for row in rows:
                    prices = prices_for(web, place, row)
                    mix = mix_under(web, place, list(row))
                    self.assertTrue((prices is None) != (mix is None))
                    if mix is None:
                        self.assertTrue(type(prices) is tuple and prices[0] > 0 and prices[1] > 0)
                        self.assertEqual(gcd(*prices), 1)
                        self.assertEqual(rate(prices, row), min(rate(prices, one) for one in rows))
                    else:
                        self.check_mix(mix, best, row)

    def check_mix(self, mix, best, row):
        self.assertTrue(1 <= len(mix) <= 2)
        self.assertTrue(all(key in best for key in mix))
        self.assertEqual(list(mix), sorted(mix))
        self.assertTrue(all(type(weight) is int and weight > 0 for weight in mix.values()))
        self.assertEqual(gcd(*mix.values()), 1)
        first, second = mean(mix)
        one, other = per_tick(row)
        self.assertTrue(first <= one and second <= other and (first, second) != (one, other))

    def test_same_each_time(self):
        for web in random_webs(25, 20):
            again = Web(web.places(), [list(step) for step in reversed(web.steps())])
            for row in rows_of(web, 0):
                self.assertEqual(mix_under(web, 0, row), mix_under(again, 0, list(row)))
                self.assertEqual(prices_for(web, 0, row), prices_for(again, 0, list(row)))

    def test_errors(self):
        web = web_w()
        for function in (prices_for, mix_under):
            for thing in [3, -1] + non_integers():
                with self.assertRaises(BadPlace) as caught:
                    function(web, thing, "no row")
                self.assertIs(caught.exception.place, thing)
            for thing in objects() + [(2, 2, 2), (1, 1), (1, 1, 1, 1), (True, 1, 1), (1, True, 1), (1, 1, True),
                                      (0, 3, 2), [3, 0, 2], {(1, 1, 1): 1}, (False, 3, 1), ("1", 1, 1)]:
                with self.assertRaises(BadRow) as caught:
                    function(web, 0, thing)
                self.assertIs(caught.exception.row, thing)
            # A row of another lot is no row from 2.
            with self.assertRaises(BadRow):
                function(web, 2, (0, 3, 1))
            with self.assertRaises(BadRow):
                function(Web(1, []), 0, (0, 3, 1))
            function(web=web, place=2, row=[3, 0, 1])


class ManyRowsTest(unittest.TestCase):
    STEPS = [(0, 0, (0, 6), 5, -3), (0, 1, (0, -1), 1, 9), (0, 2, (8, -8), 1, 0), (1, 0, (5, -3), 1, 0), (1, 0, (6, -7), 3, 0),
             (1, 1, (9, -4), 1, -9), (1, 2, (-8, 3), 1, 9), (1, 2, (-1, -6), 1, 9), (1, 2, (0, -4), 4, -3), (2, 0, (9, -3), 3, 0),
             (2, 1, (3, -6), 4, -9), (2, 1, (3, -5), 3, 0), (2, 1, (5, 4), 1, 9), (2, 1, (7, -7), 3, 1)]

    def test_just_one_of_each_row(self):
        web = Web(3, self.STEPS)
        told = rows_of(web, 1)
        self.assertIn((17, -11, 4), told)
        best = best_rows(Web(3, self.STEPS), 1)
        self.assertEqual(best_rows(web, 1), best)
        for row in told:
            prices, mix = prices_for(web, 1, row), mix_under(web, 1, row)
            self.assertNotEqual(prices is None, mix is None)
            self.assertEqual((prices_for(Web(3, self.STEPS[::-1]), 1, list(row)), mix_under(Web(3, self.STEPS), 1, row)),
                             (prices, mix))
            if prices is not None:
                self.assertTrue(all(rate(prices, row) <= rate(prices, other) for other in told))
            else:
                self.assertTrue(len(mix) <= 2 and all(one in best for one in mix))
                self.assertTrue(all(one <= other for one, other in zip(mean(mix), per_tick(row))))
                self.assertNotEqual(mean(mix), per_tick(row))
                mix.clear()
                self.assertTrue(mix_under(web, 1, row))
        told.clear()
        self.assertEqual(len(rows_of(web, 1)), len(rows_of(Web(3, self.STEPS), 1)))


if __name__ == "__main__":
    unittest.main()
