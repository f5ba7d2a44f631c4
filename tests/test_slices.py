import unittest
from fractions import Fraction
from itertools import combinations, product
from random import Random

from anyaround.errors import BadAnswer, BadCost, BadDoor, BadForm, BadPrices, BadTicks, Unfit
from anyaround.kinds import form, worth_in
from anyaround.parts import Part
from anyaround.slices import learned_slice, slice_of

from tests.brute import cost, non_integers, objects, part_p
from tests.plain import for_kind, random_part
from tests.test_copies import F
from tests.test_everywhere import turned
from tests.test_formparts import WRONG


def lowest(rate):
    found = Fraction(*rate)
    return found.numerator, found.denominator


def plain_slice(rows, passes, prices):
    """The slice, by asking of each pair at which rates it alone is least."""
    rate = min((Fraction(cost(prices, row), row[2]) for row in rows), default=None)
    pairs = {(cost(prices, row), row[2]) for row in passes}
    return (None if rate is None else (rate.numerator, rate.denominator),
            sorted((pair for pair in pairs if is_somewhere_least(pair, pairs, rate)), key=lambda pair: pair[1]))


def is_somewhere_least(pair, pairs, rate):
    low, high = None, rate
    for other in pairs - {pair}:
        # At a rate r other costs more: other[0] - pair[0] > r * (other[1] - pair[1]).
        rise, run = other[0] - pair[0], other[1] - pair[1]
        if run == 0 and rise <= 0:
            return False
        if run > 0:
            high = Fraction(rise, run) if high is None else min(high, Fraction(rise, run))
        if run < 0:
            low = Fraction(rise, run) if low is None else max(low, Fraction(rise, run))
    return low is None or high is None or low < high


def worth_of(told, way):
    """What a part with a slice answers."""
    rate, pairs = told
    rates = [Fraction(*rate)] if rate is not None else []
    if way is not None:
        rates += [Fraction(dear + way[0], ticks + way[1]) for dear, ticks in pairs]
    if not rates:
        return None
    return min(rates).numerator, min(rates).denominator


def all_slices(rate, ticks, most):
    """All slices with a rate, within bounds."""
    found = []
    for many in range(ticks + 1):
        for long in combinations(range(1, ticks + 1), many):
            for dear in product(range(-most, most + 1), repeat=many):
                pairs = list(zip(dear, long))
                steep = [Fraction(pairs[k + 1][0] - pairs[k][0], pairs[k + 1][1] - pairs[k][1]) for k in range(many - 1)]
                if all(one < other for one, other in zip(steep, steep[1:])):
                    if rate is None or not steep or steep[-1] < Fraction(*rate):
                        found.append((rate, pairs))
    return found


class SliceTest(unittest.TestCase):
    def test_example(self):
        self.assertEqual(slice_of(F, 0, 0, (1, 1)), ((2, 1), [(4, 1), (3, 2)]))
        self.assertEqual(slice_of(form=F, i=0, j=0, prices=(2, 2)), ((4, 1), [(8, 1), (6, 2)]))
        # As steep as the rate is not below it.
        self.assertEqual(slice_of([([(1, 0, 1)], [[(0, 4, 1), (2, 0, 3)]])], 0, 0, (2, 1)), ((2, 1), [(4, 1)] + [(4, 3)]))
        self.assertEqual(slice_of([([(1, 0, 1)], [[(0, 1, 1), (1, 0, 2)]])], 0, 0, (2, 1)), ((2, 1), [(1, 1), (2, 2)]))
        self.assertEqual(slice_of([([(1, 0, 2)], [[(0, 1, 1), (1, 0, 2)]])], 0, 0, (2, 1)), ((1, 1), [(1, 1)]))
        self.assertEqual(slice_of([([], [[]])], 0, 0, (1, 1)), (None, []))
        self.assertEqual(slice_of([([(1, 1, 1)], [[]])], 0, 0, (1, 1)), ((2, 1), []))
        self.assertEqual(slice_of([([], [[(3, 0, 2), (0, 3, 2)][::-1]])], 0, 0, (1, 1)), (None, [(3, 2)]))

    def test_as_written(self):
        random = Random(201)
        for _ in range(120):
            part = random_part(random, **for_kind("rates"))
            told = form(part, "rates")
            prices = (random.randint(1, 6), random.randint(1, 6))
            for i, (rows, passes) in enumerate(told):
                for j, of_doors in enumerate(passes):
                    found = slice_of(told, i, j, prices)
                    self.assertEqual(found, plain_slice(rows, of_doors, prices))
                    self.assertEqual(slice_of(turned(told), i, j, list(prices)), found)
                    costs = [dear for dear, _ in found[1]]
                    ticks = [long for _, long in found[1]]
                    self.assertEqual(ticks, sorted(set(ticks)))
                    # The worth with one way back hangs on the slice alone; (x, n) is what it costs and takes.
                    way = (random.randint(-5, 5), random.randint(-5, 5))
                    back = (j, i, way, random.randint(1, 6), 0)
                    self.assertEqual(worth_in(part, "rates", (i, [back], prices)),
                                     worth_of(found, (cost(prices, way), back[3])))
                    self.assertEqual(len(costs), len(found[1]))

    def test_many_rows(self):
        random = Random(205)
        longest = 0
        for _ in range(80):
            steps = {(0, 1, (random.randint(-20, 20), random.randint(-20, 20)), random.randint(1, 12), 0) for _ in range(25)}
            rings = {(0, 0, (random.randint(3, 9), random.randint(3, 9)), 2, 0) for _ in range(random.randint(0, 2))}
            told = form(Part(2, list(steps | rings), [0], [1]), "rates")
            for prices in [(1, 1), (3, 1), (1, 5)]:
                found = slice_of(told, 0, 0, prices)
                self.assertEqual(found, plain_slice(told[0][0], told[0][1][0], prices))
                longest = max(longest, len(found[1]))
        self.assertGreater(longest, 4)

    def test_errors(self):
        for thing in objects() + WRONG["rates"]:
            with self.assertRaises(BadForm) as caught:
                slice_of(thing, None, None, None)
            self.assertIs(caught.exception.thing, thing)
        for thing in [1, -1] + non_integers():
            for doors in [(thing, 9), (0, thing)]:
                with self.assertRaises(BadDoor) as caught:
                    slice_of(F, *doors, None)
                self.assertIs(caught.exception.number, thing)
        for thing in [None, (0, 1), (1, 1, 1), (True, 1), "11", 5]:
            with self.assertRaises(BadPrices) as caught:
                slice_of(F, 0, 0, thing)
            self.assertIs(caught.exception.thing, thing)


class LearnedTest(unittest.TestCase):
    def learned(self, answer, ticks, most):
        """What is learned, and what was asked, with the answers."""
        log = []

        def box(way):
            self.assertNotIn(way, [one for one, _ in log])
            self.assertTrue(way is None if not log else type(way) is tuple and [type(one) for one in way] == [int, int])
            self.assertTrue(way is None or way[1] >= 1)
            log.append((way, answer(way)))
            return log[-1][1]

        try:
            told = learned_slice(box, ticks, most)
        except Unfit as error:
            self.assertIs(error.way, log[-1][0])
            return None, log
        self.assertLessEqual(len(log), 2 * len(told[1]) + 2)
        self.assertTrue(type(told) is tuple and type(told[1]) is list)
        return told, log

    def test_example(self):
        p = part_p()

        def answer(way):
            return worth_in(p, "rates", (0, [] if way is None else [(0, 0, (way[0], 0), way[1], 0)], (1, 1)))

        told, log = self.learned(answer, 4, 9)
        self.assertEqual(told, ((2, 1), [(4, 1), (3, 2)]))
        self.assertLessEqual(len(log), 6)
        self.assertEqual(self.learned(lambda way: (2, 1), 4, 9)[0], ((2, 1), []))
        self.assertIsNone(self.learned(lambda way: None if way is None else (0, 1), 4, 9)[0])
        self.assertEqual(learned_slice(box=lambda way: [4, 2], ticks=4, cost=9), ((2, 1), []))

    def test_of_forms(self):
        random = Random(202)
        for _ in range(120):
            part = random_part(random, 1, 1, **for_kind("rates"))
            told = slice_of(form(part, "rates"), 0, 0, (random.randint(1, 3), random.randint(1, 3)))
            ticks = max([1] + [long for _, long in told[1]]) + random.choice([0, 0, 3, 20])
            most = max([0] + [abs(dear) for dear, _ in told[1]]) + random.choice([0, 0, 5, 300])
            times = random.randint(1, 3)

            def answer(way):
                rate = worth_of(told, way)
                return rate if rate is None else [rate[0] * times, rate[1] * times]

            self.assertEqual(self.learned(answer, ticks, most)[0], told)

    def test_of_parts(self):
        # The ways back are gone round in earnest, in whole amounts of the price 1.
        random = Random(203)
        for _ in range(40):
            part = random_part(random, 1, 1, **for_kind("rates"))
            prices = (1, random.randint(1, 4))

            def answer(way):
                return worth_in(part, "rates", (0, [] if way is None else [(0, 0, (way[0], 0), way[1], 0)], prices))

            told = slice_of(form(part, "rates"), 0, 0, prices)
            self.assertEqual(self.learned(answer, 20, 60)[0], told)

    def test_all_small_slices(self):
        for rate in [None, (0, 1), (1, 2), (-2, 1), (5, 3), (-7, 200)]:
            for ticks, most in [(1, 0), (1, 2), (2, 1), (3, 1)]:
                for one in all_slices(rate, ticks, most):
                    told, _ = self.learned(lambda way: worth_of(one, way), ticks, most)
                    self.assertEqual(told, one)

    def test_lies(self):
        random = Random(204)
        ends = {True: 0, False: 0}
        for _ in range(500):
            ticks, most = random.choice([(1, 1), (2, 1), (2, 2), (3, 1)])
            rate = random.choice([None, (0, 1), (1, 2), (-2, 1), (3, 1)])
            known = all_slices(rate, ticks, most)
            now = [random.choice(known)]
            share = random.random()

            def answer(way):
                if random.random() < share * 0.6:
                    now[0] = random.choice(known)
                if way is not None and random.random() < share * 0.1:
                    return random.choice([None, lowest((random.randint(-9, 9), random.randint(1, 4)))])
                return worth_of(now[0], way)

            told, log = self.learned(answer, ticks, most)
            fit = [one for one in known if all(worth_of(one, way) == said for way, said in log)]
            self.assertEqual(fit, [] if told is None else [told])
            if told is None:
                # It is raised as soon as it can be.
                self.assertTrue(any(all(worth_of(one, way) == said for way, said in log[:-1]) for one in known))
            ends[told is None] += 1
        self.assertTrue(min(ends.values()) > 50)

    def test_bounds(self):
        # A pair just within, or just outside.
        for pair in [(9, 4), (-9, 4), (9, 1)]:
            one = ((7, 1), [pair])
            self.assertEqual(self.learned(lambda way: worth_of(one, way), 4, 9)[0], one)
            self.assertIsNone(self.learned(lambda way: worth_of(one, way), 4, 8)[0])
            if pair[1] > 1:
                self.assertIsNone(self.learned(lambda way: worth_of(one, way), 3, 9)[0])
        self.assertEqual(self.learned(lambda way: None, 1, 0)[0], (None, []))

    def test_far_bounds(self):
        pairs = [(400 - 20 * k + k * k // 2, k) for k in range(2, 41, 2)]
        one = ((1000, 3), pairs)
        self.assertEqual(self.learned(lambda way: worth_of(one, way), 40, 400)[0], one)
        one = (None, [(-400, 1), (-399, 2), (400, 40)])
        self.assertEqual(self.learned(lambda way: worth_of(one, way), 40, 400)[0], one)

    def test_bad_answer(self):
        for thing in [one for one in objects() if one is not None and one != (1, 2)] + [(1, 0), (1, -1), (1, True), 1, (1,)]:
            if thing == [0, 1]:
                continue
            for before in [[], [(5, 1)], [None]]:
                said = before + [thing]
                with self.assertRaises(BadAnswer, msg=thing) as caught:
                    learned_slice(lambda way: said.pop(0), 4, 9)
                self.assertIs(caught.exception.thing, thing)
        self.assertRaises(KeyError, learned_slice, lambda way: {}[way], 4, 9)

    def test_bad_bounds(self):
        for thing in [0, -1] + non_integers():
            with self.assertRaises(BadTicks) as caught:
                learned_slice(None, thing, None)
            self.assertIs(caught.exception.ticks, thing)
        for thing in [-1] + non_integers():
            with self.assertRaises(BadCost) as caught:
                learned_slice(None, 1, thing)
            self.assertIs(caught.exception.cost, thing)


if __name__ == "__main__":
    unittest.main()
