"""Promises [16.3], [16.4] and of [16.5] the last two: ever longer turns, choosers."""

import unittest
from fractions import Fraction
from math import gcd
from random import Random

from anyaround.errors import BadPlace, BadStock
from anyaround.hadrates import mix_within
from anyaround.legs import is_legs, legs_sum
from anyaround.rates import credit, rate_at
from anyaround.refusals import BadChooser, BadMix, BadNumber
from anyaround.running import chosen, turning
from anyaround.stocks import longest
from anyaround.webs import Web, is_ring, lots

from tests.brute import W_STEPS, cost, non_integers, objects, random_webs, reached_from, rings_at, triple, web_w
from tests.plain_programs import turned
from tests.plain_runs import sum_plainly

A, B, C, D, E = W_STEPS
FOUND = ([0, 1], {(0, 3, 1): 1, (1, 1, 1): 1})
# Rings of two and of three steps that are two and three times their rows.
FITTING = Web(4, [(0, 1, (1, 0), 1, 0), (1, 0, (1, 0), 1, 2), (0, 2, (0, 1), 1, 0), (2, 3, (0, 1), 1, 1),
                  (3, 0, (0, 1), 1, 0), (3, 3, (4, 6), 2, -1)])


def lowest(row):
    common = gcd(*row)
    return tuple(number // common for number in row)


def random_found(random, web, place):
    """A lot that is reached and a mix of rows of its rings, None if there is none."""
    reached = [lot for lot in lots(web) if lot[0] in reached_from(web, place)]
    if not reached:
        return None
    lot = random.choice(reached)
    rows = sorted({lowest(triple(ring)) for start in lot for ring in rings_at(web, start)})
    chosen_rows = random.sample(rows, random.randint(1, min(3, len(rows))))
    return lot, {row: random.randint(1, 7) for row in chosen_rows}


class TurningTest(unittest.TestCase):
    def check(self, web, place, found, turns):
        legs = turning(web, place, found, turns)
        lot, mix = found
        self.assertTrue(is_legs(web, place, legs))
        self.assertIs(type(legs), list)
        self.assertEqual(len(legs), 2 * len(mix) * turns)
        at, first, fits = place, {}, {}
        for number, (walk, times) in enumerate(legs[::2]):
            self.assertEqual(times, 1)
            places = [step[1] for step in walk] + ([walk[0][0]] if walk else [])
            self.assertEqual(len(set(places)), len(places))
            row = sorted(mix)[number % len(mix)]
            ring, many = legs[2 * number + 1]
            self.assertTrue(is_ring(web, ring) and ring[0][0] in lot)
            self.assertEqual((walk[0][0] if walk else ring[0][0]), at)
            self.assertEqual(lowest(triple(ring)), row)
            self.assertEqual(first.setdefault(row, ring), ring)
            at = ring[0][0]
            fits[row] = triple(ring)[2] // row[2]
        c = next(k for k in range(1, 10 ** 6) if all(k * mix[row] % fits[row] == 0 for row in fits)) if fits else 1
        for number, (ring, many) in enumerate(legs[1::2]):
            row = sorted(mix)[number % len(mix)]
            self.assertEqual(many, (number // len(mix) + 1) * c * mix[row] // fits[row])
        for turn in range(turns):
            rings = legs[2 * len(mix) * turn:2 * len(mix) * (turn + 1)][1::2]
            amounts, ticks, _ = tuple(zip(*[
                (sum_plainly(ring)[0][0] * many, sum_plainly(ring)[0][1] * many, sum_plainly(ring)[1] * many)
                for ring, many in rings]))
            expected = [sum(row[k] * weight for row, weight in mix.items()) * (turn + 1) * c for k in range(3)]
            self.assertEqual([sum(amounts), sum(ticks), sum(_)], expected)
        return legs

    def test_random(self):
        random = Random(71)
        for web in random_webs(72, 150):
            place = random.randrange(web.places())
            found = random_found(random, web, place)
            if found is not None:
                turns = random.randint(0, 6)
                legs = self.check(web, place, found, turns)
                mix = {row: found[1][row] for row in reversed(list(found[1]))}
                self.assertEqual(turning(web, place, [tuple(found[0]), mix], turns), legs)

    def test_fitting(self):
        for mix in ({(1, 0, 1): 1, (0, 1, 1): 1}, {(1, 0, 1): 2, (0, 1, 1): 5, (2, 3, 1): 1}, {(1, 0, 1): 4},
                    {(2, 3, 1): 3, (0, 1, 1): 3}):
            for place in range(4):
                self.check(FITTING, place, ([0, 1, 2, 3], mix), 5)
        legs = turning(FITTING, 0, ([0, 1, 2, 3], {(1, 0, 1): 1, (0, 1, 1): 1}), 1)
        self.assertEqual([times for _, times in legs[1::2]], [2, 3])

    def test_found_by_mix_within(self):
        for web in random_webs(73, 60):
            found = mix_within(web, 0, (None, (3, 1)))
            if found is not None:
                legs = turning(web, 0, found, 20)
                amounts, ticks, _ = legs_sum(web, 0, legs)
                mean = Fraction(sum(row[1] * weight for row, weight in found[1].items()),
                                sum(row[2] * weight for row, weight in found[1].items()))
                self.assertTrue(is_legs(web, 0, legs) and mean <= 3)
                more = turning(web, 0, found, 400)
                far, long, _ = legs_sum(web, 0, more)
                self.assertLessEqual(abs(Fraction(far[1], long) - mean), Fraction(1, 4))
                self.assertEqual(more[:len(legs)], legs)

    def test_example(self):
        legs = self.check(web_w(), 0, FOUND, 1)
        self.assertEqual([len(walk) * times for walk, times in legs[1::2]], [2, 2])
        self.assertEqual(turning(web_w(), 0, FOUND, 0), [])

    def test_bad_mix(self):
        good = {(1, 1, 1): 1}
        none = [([0, 1], {}), ([0, 1], {(1, 1, 1): 0}), ([0, 1], {(1, 1, 1): True}), ([0, 1], {(2, 2, 2): 1}),
                ([0, 1], {(3, 0, 1): 1}), ([0, 1], {(1, 1, True): 1}), ([0, 1], {(1, 1): 1}), ([0, 1], [(1, 1, 1)]),
                ([0, 1], {"a": 1}), ([1, 0], good), ([0], good), ([0, True], good), ([0, 1, 2], good), ([], good), (0, good),
                ([0, 1],), ([0, 1], good, 1), {0: [0, 1]}, ([False, 1], good), ([0, 1], {**good, (9, 9, 9): 1}),
                ("01", good), ([0, 1, None], good)]
        for found in none + objects():
            with self.assertRaises(BadMix) as caught:
                turning(web_w(), 0, found, -1)
            self.assertIs(caught.exception.found, found)
        with self.assertRaises(BadMix):
            turning(web_w(), 2, FOUND, 1)
        self.assertEqual(len(turning(web_w(), 2, ([2], {(3, 0, 1): 2}), 2)), 4)

    def test_other_errors(self):
        for place in non_integers() + [-1, 3]:
            with self.assertRaises(BadPlace) as caught:
                turning(web_w(), place, None, None)
            self.assertIs(caught.exception.place, place)
        for turns in non_integers() + [-1]:
            with self.assertRaises(BadNumber) as caught:
                turning(web_w(), 0, FOUND, turns)
            self.assertIs(caught.exception.number, turns)


def choosers(web):
    """Choosers by their names."""
    def leading(place):
        return [step for step in web.steps() if step[0] == place]

    def cheapest(place, sums):
        return min(leading(place), key=lambda step: (step[2][0] + step[2][1], step))

    return {"first": lambda place, sums: leading(place)[0], "last": lambda place, sums: leading(place)[-1],
            "cheapest": cheapest, "list": lambda place, sums: turned(leading(place)[sums[1] % len(leading(place))])}


class ChosenTest(unittest.TestCase):
    def test_asked_with(self):
        for web in random_webs(74, 80):
            for stock in (None, 0, 7, 60):
                for name, chooser in choosers(web).items():
                    asked = []

                    def asking(place, sums):
                        asked.append((place, sums))
                        return chooser(place, sums)

                    walk, sums, fault = chosen(web, 0, stock, asking, 30)
                    self.check(web, stock, asked, walk, sums, fault, 30)

    def check(self, web, stock, asked, walk, sums, fault, steps):
        expected = []
        for number in range(len(walk)):
            amounts, ticks, change = sum_plainly(walk[:number])
            expected.append((walk[number][0], (amounts, ticks, None if stock is None else stock + change)))
        self.assertEqual(asked[:len(walk)], expected)
        self.assertEqual(len(asked), len(walk))
        amounts, ticks, change = sum_plainly(walk)
        self.assertEqual(sums, (amounts, ticks, None if stock is None else stock + change))
        self.assertEqual((type(walk), type(sums), type(sums[0])), (list, tuple, tuple))
        for step in walk:
            self.assertIn(step, web.steps())
            self.assertIs(type(step), tuple)
        end = walk[-1][1] if walk else 0
        if fault is None:
            self.assertEqual(len(walk), steps)
            self.assertTrue(stock is None or sums[2] >= 0)
        elif fault == "end":
            self.assertFalse([step for step in web.steps() if step[0] == end])
            self.assertTrue(len(walk) < steps and (stock is None or sums[2] >= 0))
        else:
            self.assertEqual(fault, "below")
            self.assertLess(sums[2], 0)

    def test_just_so_far(self):
        line = Web(3, [(0, 1, (0, 0), 1, -2), (1, 2, (0, 0), 1, 5)])
        first = choosers(line)["first"]
        self.assertEqual(chosen(line, 0, 1, first, 2), ([line.steps()[0]], ((0, 0), 1, -1), "below"))
        self.assertEqual(chosen(line, 0, 1, first, 1), ([line.steps()[0]], ((0, 0), 1, -1), "below"))
        self.assertEqual(chosen(line, 0, 2, first, 2), (line.steps(), ((0, 0), 2, 5), None))
        self.assertEqual(chosen(line, 0, 2, first, 3), (line.steps(), ((0, 0), 2, 5), "end"))
        self.assertEqual(chosen(line, 0, None, first, 2), (line.steps(), ((0, 0), 2, None), None))
        for place in range(3):
            self.assertEqual(chosen(line, place, 0, first, 0), ([], ((0, 0), 0, 0), None))
        self.assertEqual(chosen(line, 2, None, lambda place, sums: 1 // 0, 1), ([], ((0, 0), 0, None), "end"))

    def test_odd(self):
        for answer in objects() + [B, C, A[:4], A + (0,), (0, 1, (2, 0), 1, False), (0, 1, (2, 0), True, 0), [A],
                                   (0, 1, (2, 0), 1, 1)]:
            self.assertEqual(chosen(web_w(), 0, 4, lambda place, sums: answer, 5), ([], ((0, 0), 0, 4), "odd"))
        self.assertEqual(chosen(web_w(), 0, 0, lambda place, sums: A, 5), ([A], ((2, 0), 1, 0), "odd"))

    def test_raises(self):
        def raising(place, sums):
            raise KeyError(place)

        with self.assertRaises(KeyError):
            chosen(web_w(), 0, None, raising, 1)
        self.assertEqual(chosen(web_w(), 0, None, raising, 0)[2], None)

    def test_whatever_it_does(self):
        for web in random_webs(75, 80):
            for place in range(web.places()):
                prices, rate = (2, 3), rate_at(web, place, (2, 3))
                for stock in (None, 3):
                    for chooser in choosers(web).values():
                        walk, sums, fault = chosen(web, place, stock, chooser, 60)
                        if rate is not None:
                            bound = Fraction(*rate) * sums[1] - Fraction(*credit(web, place, prices))
                            self.assertGreaterEqual(cost(prices, sums[0]), bound)
                        if stock is not None and longest(web, place, stock) is not None:
                            most = longest(web, place, stock)
                            self.assertIsNotNone(chosen(web, place, stock, chooser, most + 1)[2])

    def test_example(self):
        self.assertEqual(chosen(web_w(), 0, 0, choosers(web_w())["first"], 3), ([A, B, A], ((4, 2), 3, 0), None))

    def test_errors(self):
        for place in non_integers() + [-1, 3]:
            with self.assertRaises(BadPlace) as caught:
                chosen(web_w(), place, -1, None, None)
            self.assertIs(caught.exception.place, place)
        for stock in [thing for thing in non_integers() if thing is not None] + [-1]:
            with self.assertRaises(BadStock) as caught:
                chosen(web_w(), 0, stock, None, None)
            self.assertIs(caught.exception.stock, stock)
        for chooser in [0, 1, True, False, "", "ab", None, [], [len], (), (len,), {}, {0: len}]:
            with self.assertRaises(BadChooser) as caught:
                chosen(web_w(), 0, None, chooser, -1)
            self.assertIs(caught.exception.chooser, chooser)
        for steps in non_integers() + [-1]:
            with self.assertRaises(BadNumber) as caught:
                chosen(web_w(), 0, 0, len, steps)
            self.assertIs(caught.exception.number, steps)


if __name__ == "__main__":
    unittest.main()
