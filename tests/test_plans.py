"""Promises [16.2] and of [16.5] what speaks of plans."""

import unittest
from fractions import Fraction
from random import Random

from anyaround.errors import BadFraction, BadPlace, BadPrices
from anyaround.plans import first_short, is_plan, plan_credit, plan_need, plan_rates, plan_sum
from anyaround.rates import best_ring, credit, rate_at
from anyaround.refusals import BadNumber, BadPlan
from anyaround.stocks import least_on, way_on

from tests.brute import W_STEPS, cost, non_integers, objects, pair, random_webs, reached_from, simple_walks, web_w
from tests.plain_programs import turned
from tests.plain_runs import first_steps, need_plainly, random_plans, sum_plainly, sums_along, written_out
from tests.test_legs import NO_LEGS

A, B, C, D, E = W_STEPS
GREAT = 10 ** 30
PLANS = random_plans(61, 200)
PLAN = ([([A], 1)], [B, A])
# Pairs of a place of W and what is no plan from there.
NO_PLANS = [(0, ([], [])), (0, ([([A], 1)], [A, B])), (0, ([], [B, A])), (0, ([], [A])), (0, ([([A], 1)],)),
            (0, ([([A], 1)], [B, A], [])), (0, ([([A], 2)], [A, B])), (0, (None, [A, B])), (0, ([], None)),
            (0, ([], ([A, B],))), (0, ([], A)), (0, {0: [], 1: [A, B]}), (0, ([], [A, C, A]))]
NO_PRICES = [(0, 1), (1, 0), (1, -1), (1,), (1, 1, 1), (True, 1), None, "ab", 1]
NO_FRACTIONS = [(1, 0), (1, -2), (1,), (1, 2, 3), (True, 1), (1, True), None, "ab", 1]


def weighed(steps, prices, rate):
    """What is paid above a rate behind each number of steps."""
    return sums_along([cost(prices, step[2]) - Fraction(*rate) * step[3] for step in steps])


class PlanTest(unittest.TestCase):
    def test_are_plans(self):
        for web, place, plan in PLANS:
            self.assertIs(is_plan(web, place, plan), True)
            self.assertIs(is_plan(web, place, turned(plan)), True)
        self.assertTrue(is_plan(web_w(), 0, ([], [A, C, B, A, B])))

    def test_are_none(self):
        for place, plan in NO_PLANS + [(place, (legs, [C])) for place, legs in NO_LEGS if place == 1]:
            self.assertIs(is_plan(web_w(), place, plan), False, plan)
        for thing in objects():
            self.assertIs(is_plan(web_w(), 0, thing), False)
            self.assertIs(is_plan(web_w(), 0, (thing, [A, B])), thing in ([], ()))
            self.assertIs(is_plan(web_w(), 0, ([], thing)), False)

    def test_sums(self):
        for web, place, plan in PLANS:
            steps = first_steps(plan, 40)
            for number in range(40):
                self.assertEqual(plan_sum(web, place, turned(plan), number), sum_plainly(steps[:number]))
            legs, last = plan
            ahead = len(written_out(legs))
            one, begun = sum_plainly(last), sum_plainly(written_out(legs) + list(last[:1]))
            far = plan_sum(web, place, plan, ahead + GREAT * len(last) + 1)
            self.assertEqual(far, (tuple(begun[0][k] + GREAT * one[0][k] for k in (0, 1)),
                                   begun[1] + GREAT * one[1], begun[2] + GREAT * one[2]))

    def test_rates(self):
        for web, place, plan in PLANS:
            amounts, ticks, _ = sum_plainly(plan[1])
            self.assertEqual(plan_rates(web, place, plan), tuple(pair(Fraction(amount, ticks)) for amount in amounts))

    def test_needs(self):
        for web, place, plan in PLANS:
            told = plan_need(web, place, plan)
            legs, last = plan
            if sum_plainly(last)[2] < 0:
                self.assertIsNone(told)
            else:
                self.assertEqual(told, need_plainly(written_out(legs) + list(last))[0])
                least = least_on(web, place)
                self.assertTrue(least is not None and least <= told)

    def test_least_need(self):
        for web in random_webs(62, 60):
            for place in range(web.places()):
                least = least_on(web, place)
                if least is not None:
                    walk, ring = way_on(web, place, least)
                    self.assertEqual(plan_need(web, place, ([(walk, 1)], ring)), least)


class CreditTest(unittest.TestCase):
    def cases(self):
        random = Random(63)
        for web, place, plan in PLANS:
            prices = (random.randint(1, 5), random.randint(1, 5))
            top, bottom = random.randint(-12, 12), random.randint(1, 4)
            yield web, place, plan, prices, (top, bottom)
            amounts, ticks, _ = sum_plainly(plan[1])
            yield web, place, plan, prices, (2 * cost(prices, amounts), 2 * ticks)

    def test_credits(self):
        for web, place, plan, prices, rate in self.cases():
            legs, last = plan
            told = plan_credit(web, place, turned(plan), prices, list(rate))
            if weighed(last, prices, rate)[-1] < 0:
                self.assertIsNone(told)
            else:
                self.assertEqual(told, pair(-min(weighed(written_out(legs) + list(last), prices, rate))))

    def test_just_one(self):
        random = Random(64)
        for web, place, plan, prices, rate in self.cases():
            least = plan_credit(web, place, plan, prices, rate)
            more = [(0, 1), (-1, 3), (random.randint(0, 90), random.randint(1, 9))]
            if least is not None:
                more += [least, (2 * least[0], 2 * least[1]), (7 * least[0] - 1, 7 * least[1]), (7 * least[0] + 1, 7 * least[1])]
            for bound in more:
                short = first_short(web, place, plan, prices, rate, bound)
                within = least is not None and Fraction(*least) <= Fraction(*bound)
                self.assertEqual(within, short is None)
                if bound[0] < 0:
                    self.assertEqual(short, 0)
                if short is not None and short < 400:
                    sums = weighed(first_steps(plan, 400), prices, rate)
                    self.assertEqual(short, next(k for k, paid in enumerate(sums) if paid < -Fraction(*bound)))

    def test_far_off(self):
        for web, place, plan, prices, rate in self.cases():
            if plan_credit(web, place, plan, prices, rate) is None:
                for bound in ((GREAT, 1), (GREAT, 9999), (GREAT + 7, 10 ** 4)):
                    short = first_short(web, place, plan, prices, rate, bound)
                    self.assertGreater(short, 10 ** 20)
                    paid = []
                    for number in (short - 1, short):
                        amounts, ticks, _ = plan_sum(web, place, plan, number)
                        paid.append(cost(prices, amounts) - Fraction(*rate) * ticks)
                    self.assertTrue(paid[1] < -Fraction(*bound) <= paid[0])
                    # Before that it is short nowhere: the lowest so far stands within the last round.
                    last = len(plan[1])
                    for number in range(short - 2 * last, short):
                        amounts, ticks, _ = plan_sum(web, place, plan, number)
                        self.assertGreaterEqual(cost(prices, amounts) - Fraction(*rate) * ticks, -Fraction(*bound))

    def test_facts_of_rate_at(self):
        random = Random(65)
        for web, place, plan in PLANS:
            prices = (random.randint(1, 5), random.randint(1, 5))
            rate, most = rate_at(web, place, prices), credit(web, place, prices)
            self.assertLessEqual(Fraction(*plan_credit(web, place, plan, prices, rate)), Fraction(*most))
            ring = best_ring(web, place, prices)
            walk = next(one for one in simple_walks(web, place) if (one[-1][1] if one else place) == ring[0][0])
            best = ([(walk, 1)], ring)
            self.assertIsNotNone(plan_credit(web, place, best, prices, rate))
            self.assertIsNone(plan_credit(web, place, best, prices, (rate[0] * 1000 + 1, rate[1] * 1000)))
            self.assertIn(ring[0][0], reached_from(web, place))

    def test_example(self):
        web = web_w()
        self.assertEqual(plan_rates(web, 0, PLAN), ((1, 1), (1, 1)))
        self.assertEqual(plan_need(web, 0, PLAN), 0)
        self.assertEqual(plan_credit(web, 0, PLAN, (1, 1), (2, 1)), (0, 1))
        self.assertIsNone(plan_credit(web, 0, PLAN, (1, 1), (5, 2)))
        self.assertEqual(first_short(web, 0, PLAN, (1, 1), (5, 2), (10, 1)), 21)
        self.assertIsNone(plan_need(web, 1, ([], [C])))


class ErrorsTest(unittest.TestCase):
    def calls(self, place, plan, number=0, prices=(1, 1), rate=(1, 1), bound=(0, 1)):
        web = web_w()
        return (lambda: plan_sum(web, place, plan, number), lambda: plan_rates(web, place, plan),
                lambda: plan_need(web, place, plan), lambda: plan_credit(web, place, plan, prices, rate),
                lambda: first_short(web, place, plan, prices, rate, bound))

    def test_bad_place(self):
        for place in non_integers() + [-1, 3]:
            for call in self.calls(place, None, None, None, None, None) + (lambda: is_plan(web_w(), place, PLAN),):
                with self.assertRaises(BadPlace) as caught:
                    call()
                self.assertIs(caught.exception.place, place)

    def test_bad_plan(self):
        for place, plan in NO_PLANS + [(0, thing) for thing in objects()]:
            for call in self.calls(place, plan, None, None, None, None):
                with self.assertRaises(BadPlan) as caught:
                    call()
                self.assertIs(caught.exception.plan, plan)

    def test_bad_number(self):
        for number in non_integers() + [-1]:
            with self.assertRaises(BadNumber) as caught:
                plan_sum(web_w(), 0, PLAN, number)
            self.assertIs(caught.exception.number, number)

    def test_bad_prices(self):
        for prices in NO_PRICES:
            for call in self.calls(0, PLAN, 0, prices, None, None)[3:]:
                with self.assertRaises(BadPrices) as caught:
                    call()
                self.assertIs(caught.exception.thing, prices)

    def test_bad_fraction(self):
        for rate in NO_FRACTIONS:
            for call in self.calls(0, PLAN, 0, (1, 1), rate, None)[3:]:
                with self.assertRaises(BadFraction) as caught:
                    call()
                self.assertIs(caught.exception.thing, rate)
            with self.assertRaises(BadFraction) as caught:
                first_short(web_w(), 0, PLAN, (1, 1), (1, 1), rate)
            self.assertIs(caught.exception.thing, rate)


if __name__ == "__main__":
    unittest.main()
