import unittest
from random import Random

from anyaround.errors import BadBound, BadBudget, BadDoor, BadPrices, HasBelow
from anyaround.fronts import bars, heights_over, is_bars, pass_upto, pass_within
from anyaround.kinds import form
from anyaround.parts import Part, is_pass
from anyaround.rates import is_heights

from tests.brute import P_STEPS, cost, non_integers, objects, part_p, reached_from, triple
from tests.plain import front, passes, random_part

P = part_p()
BARS = {0: [(0, 0)], 1: [(1, 1)], 2: [(0, 4), (2, 1)]}


def is_simple(walk):
    ends = [step[1] for step in walk]
    return len(set(ends)) == len(ends) and walk[0][0] not in ends


def keeps_bars(part, i, j, budget, thing):
    """Bars by their own words."""
    web = part.web()
    if set(thing) != set(reached_from(web, part.ins()[i])) or not all(thing.values()):
        return False
    if (0, 0) not in thing[part.ins()[i]]:
        return False
    for one, other, amounts, _, _ in web.steps():
        for pair in thing.get(one, []):
            if not any(to[0] <= pair[0] + amounts[0] and to[1] <= pair[1] + amounts[1] for to in thing[other]):
                return False
    return not any(all(bound is None or amount <= bound for amount, bound in zip(pair, budget))
                   for pair in thing.get(part.outs()[j], []))


class BudgetTest(unittest.TestCase):
    def test_example(self):
        self.assertIsNone(pass_within(P, 0, 0, (1, 3)))
        self.assertEqual(bars(P, 0, 0, (1, 3)), BARS)
        self.assertTrue(is_bars(P, 0, 0, (1, 3), BARS))
        self.assertEqual(pass_within(P, 0, 0, (2, 1)), [P_STEPS[0], P_STEPS[2]])
        self.assertIsNone(bars(P, 0, 0, (2, 1)))
        self.assertEqual(pass_within(part=P, i=0, j=0, budget=(0, None)), [P_STEPS[3]])

    def test_just_one(self):
        random = Random(111)
        for _ in range(80):
            part = random_part(random, below=False)
            i, j = random.randrange(len(part.ins())), random.randrange(len(part.outs()))
            pairs = {triple(walk)[:2] for walk in passes(part, i, j)}
            budgets = [(random.choice([None, random.randint(0, 20)]), random.choice([None, random.randint(0, 20)]))
                       for _ in range(3)]
            for first, second in pairs:
                budgets += [(first, second), (first - 1, second), (first, second - 1), (first, None), (None, second - 1)]
            for budget in budgets:
                if min([0] + [bound for bound in budget if bound is not None]) < 0:
                    continue
                self.check(part, i, j, budget, pairs)

    def check(self, part, i, j, budget, pairs):
        walk, found = pass_within(part, i, j, budget), bars(part, i, j, budget)
        self.assertNotEqual(walk is None, found is None)
        inside = [pair for pair in pairs if all(b is None or a <= b for a, b in zip(pair, budget))]
        self.assertEqual(walk is not None, bool(inside))
        if walk is not None:
            self.assertIs(type(walk), list)
            self.assertTrue(is_pass(part, i, j, walk) and is_simple(walk))
            self.assertIn(triple(walk)[:2], inside)
        else:
            self.assertTrue(keeps_bars(part, i, j, budget, found))
            self.assertTrue(is_bars(part, i, j, budget, found))
            self.assertEqual(list(found), sorted(found))
            self.assertTrue(all(pairs_ == sorted(pairs_) and type(pairs_) is list for pairs_ in found.values()))

    def test_no_way(self):
        part = Part(3, [(0, 0, (0, 0), 1, 0), (2, 1, (0, 0), 1, 0)], [0], [1])
        self.assertIsNone(pass_within(part, 0, 0, (None, None)))
        self.assertEqual(bars(part, 0, 0, (None, None)), {0: [(0, 0)]})
        self.assertTrue(is_bars(part, 0, 0, (None, None), {0: [(0, 0), (7, 7)]}))
        self.assertFalse(is_bars(part, 0, 0, (None, None), {0: [(0, 0)], 1: [(9, 9)]}))

    def test_is_bars(self):
        for good in [{0: [(0, 0)], 1: [(1, 1)], 2: [(2, 1), (0, 4)]}, {2: ((0, 4), [2, 1]), 1: ([1, 1],), 0: ((0, 0),)},
                     {0: [(0, 0), (0, 0)], 1: [(1, 1), (5, 0)], 2: [(0, 4), (2, 1), (2, 1), (2, 0)]},
                     {0: [(0, 0), (3, 3)], 1: [(1, 0)], 2: [(0, 4), (2, 0)]}]:
            self.assertTrue(keeps_bars(P, 0, 0, (1, 3), {key: [tuple(pair) for pair in good[key]] for key in good}))
            self.assertIs(is_bars(P, 0, 0, (1, 3), good), True, good)
        for change in [{0: [(0, 1)]}, {0: []}, {1: [(1, 2)]}, {1: [(2, 1)]}, {2: [(2, 1)]}, {2: [(0, 4)]}, {1: None},
                       {2: [(0, 4), (2, 1), (1, 3)]}, {2: [(0, 4), (1, 0)]}, {3: [(9, 9)]}, {1: [(1, 1), (0, -1)]},
                       {1: [(1, True)]}, {1: [(1, 1, 1)]}, {1: [(1,)]}, {1: (1, 1)}, {1: [None]}, {"a": [(9, 9)]},
                       {1: [(1, 1), (0, 0)]}]:
            self.assertIs(is_bars(P, 0, 0, (1, 3), {**BARS, **change}), False, change)
        for key in BARS:
            self.assertFalse(is_bars(P, 0, 0, (1, 3), {other: BARS[other] for other in BARS if other != key}))
        self.assertFalse(is_bars(P, 0, 0, (1, 3), {False: [(0, 0)], True: [(1, 1)], 2: [(0, 4), (2, 1)]}))
        self.assertFalse(is_bars(P, 0, 0, (0, 4), BARS))
        for thing in objects():
            self.assertIs(is_bars(P, 0, 0, (1, 3), thing), False)

    def test_is_bars_drawn(self):
        random = Random(112)
        both = {True: 0, False: 0}
        for _ in range(120):
            part = random_part(random, below=False, amount=4)
            budget = (random.randint(0, 8), random.randint(0, 8))
            found = {place: sorted({(random.randint(0, 3), random.randint(0, 3)) for _ in range(2)} | (
                {(0, 0)} if place == part.ins()[0] or random.random() < 0.4 else set()))
                for place in reached_from(part.web(), part.ins()[0])}
            told = is_bars(part, 0, 0, budget, found)
            self.assertEqual(told, keeps_bars(part, 0, 0, budget, found))
            both[told] += 1
        self.assertTrue(all(both.values()))


class PricesTest(unittest.TestCase):
    def test_example(self):
        self.assertEqual(heights_over(P, 0, 0, (1, 1), 2), {0: 0, 1: 2, 2: 3})
        self.assertIsNone(pass_upto(P, 0, 0, (1, 1), 2))
        self.assertEqual(pass_upto(P, 0, 0, (1, 1), 3), [P_STEPS[0], P_STEPS[2]])
        self.assertIsNone(heights_over(P, 0, 0, (1, 1), 3))
        self.assertEqual(pass_upto(part=P, i=0, j=0, prices=(1, 1), bound=1000)[-1][1], 2)
        self.assertIsNone(pass_upto(P, 0, 0, (1, 1), -1))

    def test_just_one(self):
        random = Random(113)
        for _ in range(80):
            part = random_part(random, below=False)
            i, j = random.randrange(len(part.ins())), random.randrange(len(part.outs()))
            prices = (random.randint(1, 6), random.randint(1, 6))
            least = min((cost(prices, triple(walk)) for walk in passes(part, i, j)), default=None)
            for bound in [-5, 0, 1000] + ([] if least is None else [least - 1, least, least + 1]):
                walk, found = pass_upto(part, i, j, prices, bound), heights_over(part, i, j, prices, bound)
                self.assertNotEqual(walk is None, found is None)
                self.assertEqual(walk is not None, least is not None and least <= bound)
                if walk is not None:
                    self.assertTrue(is_pass(part, i, j, walk) and is_simple(walk))
                    self.assertLessEqual(cost(prices, triple(walk)), bound)
                else:
                    begin, end = part.ins()[i], part.outs()[j]
                    self.assertTrue(is_heights(part.web(), begin, prices, (0, 1), found))
                    self.assertTrue(end not in found or found[end] - found[begin] > bound)


class ErrorsTest(unittest.TestCase):
    def test_order(self):
        bad = Part(3, P_STEPS + [(2, 1, (0, -1), 1, 0), (1, 2, (-4, 3), 1, 0)], [0], [2])
        calls = [pass_within, bars, lambda part, i, j, budget: is_bars(part, i, j, budget, None)]
        for call in calls:
            with self.assertRaises(HasBelow) as caught:
                call(bad, 9, 9, None)
            self.assertEqual(caught.exception.step, (1, 2, (-4, 3), 1, 0))
            for thing in [1, -1] + non_integers():
                with self.assertRaises(BadDoor) as caught:
                    call(P, thing, 9, None)
                self.assertIs(caught.exception.number, thing)
                with self.assertRaises(BadDoor) as caught:
                    call(P, 0, thing, None)
                self.assertIs(caught.exception.number, thing)
            for thing in objects() + [(1, -1), (None, True), (1, (1, 1)), (1, 2, 3), ((1, 1), (1, 1))]:
                if thing == (1, 2):
                    continue
                with self.assertRaises(BadBudget, msg=thing) as caught:
                    call(P, 0, 0, thing)
                self.assertIs(caught.exception.budget, thing)
        for call in [pass_upto, heights_over]:
            self.assertRaises(HasBelow, call, bad, 9, 9, None, None)
            self.assertRaises(BadDoor, call, P, True, 9, None, None)
            self.assertRaises(BadDoor, call, P, 0, 1, None, None)
            for thing in [(0, 1), (1, 0), (1, 1, 1), (1, True), None]:
                with self.assertRaises(BadPrices) as caught:
                    call(P, 0, 0, thing, None)
                self.assertIs(caught.exception.thing, thing)
            for thing in non_integers():
                with self.assertRaises(BadBound) as caught:
                    call(P, 0, 0, (1, 1), thing)
                self.assertIs(caught.exception.bound, thing)

    def test_fronts_of_great_wholes(self):
        # A chain of choices: the fronts are as long as they can be.
        steps = [(k, k + 1, amounts, 1, 0) for k in range(40) for amounts in [(0, 3), (1, 1), (3, 0)]]
        part = Part(41, steps, [0], [40])
        pairs = form(part, "budgets")[0][0]
        self.assertEqual((pairs[0], pairs[-1], len(pairs)), ((0, 120), (120, 0), 81))
        self.assertEqual(front(pairs), pairs)
        self.assertEqual(form(part, "prices"), [[[(0, 120), (40, 40), (120, 0)]]])


if __name__ == "__main__":
    unittest.main()
