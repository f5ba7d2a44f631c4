"""Promises [16.1] and of [16.5] what speaks of legs."""

import unittest
from random import Random

from anyaround.errors import BadPlace, BadStock
from anyaround.legs import first_below, is_legs, legs_need, legs_step, legs_sum
from anyaround.refusals import BadLegs, BadNumber

from tests.brute import W_STEPS, non_integers, objects, web_w
from tests.plain_programs import turned
from tests.plain_runs import below_plainly, need_plainly, random_cases, sum_plainly, written_out

A, B, C, D, E = W_STEPS
GREAT = 10 ** 30
CASES = random_cases(51, 250)
LONG = [([A], 1), ([C], GREAT)]
# Pairs of a place of W and what is no legs from there.
NO_LEGS = [(0, [([B], 1)]), (0, [([A], 2)]), (0, [([A], 0)]), (0, [([A], 1), ([A], 1)]), (0, [([A, C, B, A], 2)]),
           (0, [([A], 1), ([], 1), ([A, B], 1)]), (1, [([C], -1)]), (1, [([C], True)]), (1, [([C], None)]), (1, [([C],)]),
           (1, [([C], 1, 1)]), (1, [[C]]), (1, ([C], 1)), (1, [(C, 1)]), (1, [([C, D, C], 1)]), (1, [([E], 1)]),
           (1, [("", 1)]), (1, [([C], "1")]), (1, [({}, 1)]), (1, [(None, 1)]), (1, [([C], 1), 3]), (1, [([C], 1), None]),
           (1, [([(1, 1, (0, 3), 1)], 1)]), (1, [([(1, 1, (0, 4), 1, -1)], 1)]), (1, {0: ([C], 1)}), (1, [(1, [C])])]


class LegsTest(unittest.TestCase):
    def test_are_legs(self):
        for web, place, legs, _ in CASES:
            self.assertIs(is_legs(web, place, legs), True)
            self.assertIs(is_legs(web, place, turned(legs)), True)
        for legs in ([], [([], 0)], [([], GREAT)], [([], 1), ([A], 1), ([], 7), ([C, C], GREAT), ([C], 0), ([B, A], 3)],
                     [([A, D], 1), ([E], 5), ([], 2)], [([A, B], 0), ([A], 1)]):
            self.assertIs(is_legs(web_w(), 0, legs), True, legs)

    def test_are_none(self):
        for place, legs in NO_LEGS:
            self.assertIs(is_legs(web_w(), place, legs), False, legs)
            self.assertIs(is_legs(web_w(), place, turned(legs)), False, legs)
        for thing in objects():
            self.assertIs(is_legs(web_w(), 0, thing), thing in ([], ()), thing)

    def test_sums_and_needs(self):
        for web, place, legs, _ in CASES:
            steps = written_out(legs)
            self.assertEqual(legs_sum(web, place, turned(legs)), sum_plainly(steps))
            self.assertEqual(legs_need(web, place, legs), need_plainly(steps))

    def test_steps(self):
        for web, place, legs, _ in CASES:
            steps = written_out(legs)
            for number in range(len(steps) + 3):
                self.assertEqual(legs_step(web, place, legs, number), steps[number] if number < len(steps) else None)

    def test_first_below(self):
        for web, place, legs, _ in CASES:
            steps = written_out(legs)
            need = legs_need(web, place, legs)[0]
            for stock in {0, 1, max(0, need - 1), need, need + 1, need // 2}:
                told = first_below(web, place, legs, stock)
                self.assertEqual(told, below_plainly(steps, stock))
                self.assertEqual(stock >= need, told is None)

    def test_great_times(self):
        random = Random(52)
        for web, place, legs, _ in random_cases(53, 120, most=3):
            great = [(walk, times if times == 1 else random.choice([0, 5, GREAT, GREAT - 1])) for walk, times in legs]
            need, gain = legs_need(web, place, great)
            self.assertEqual(gain, legs_sum(web, place, great)[2])
            self.assertEqual(gain, sum(times * sum(step[4] for step in walk) for walk, times in great))
            self.assertTrue(need >= 0 and need + gain >= 0)
            self.assertIsNone(first_below(web, place, great, need))
            if need > 0:
                many = first_below(web, place, great, need - 1)
                begun = self.cut(great, many)
                self.assertEqual(need - 1 + legs_sum(web, place, begun)[2], -1)
                self.assertEqual(legs_need(web, place, begun)[0], need)
                self.assertEqual(legs_step(web, place, great, many - 1), self.last(begun))
            all_steps = sum(times * len(walk) for walk, times in great)
            self.assertIsNone(legs_step(web, place, great, all_steps))
            if all_steps:
                self.assertEqual(legs_step(web, place, great, all_steps - 1), self.last(great))

    def cut(self, legs, many):
        """Legs with just the first so many steps."""
        found = []
        for walk, times in legs:
            if walk and times:
                rounds = min(times, many // len(walk))
                found += [(walk, rounds)] if rounds else []
                many -= rounds * len(walk)
                if rounds < times:
                    return found + [(walk[:many], 1)]
        return found

    def last(self, legs):
        return [walk[-1] for walk, times in legs if walk and times][-1]

    def test_example(self):
        self.assertEqual(legs_sum(web_w(), 0, LONG), ((2, 3 * GREAT), GREAT + 1, -GREAT))
        self.assertEqual(legs_need(web_w(), 0, LONG), (GREAT, -GREAT))
        self.assertEqual(first_below(web_w(), 0, LONG, 5), 7)
        self.assertEqual(first_below(web_w(), 0, LONG, GREAT - 1), GREAT + 1)
        self.assertIsNone(first_below(web_w(), 0, LONG, GREAT))
        self.assertEqual(legs_step(web_w(), 0, LONG, 0), A)
        self.assertEqual(legs_step(web_w(), 0, LONG, GREAT), C)
        self.assertIsNone(legs_step(web_w(), 0, LONG, GREAT + 1))
        self.assertEqual(legs_sum(web_w(), 0, []), ((0, 0), 0, 0))
        self.assertEqual(legs_need(web_w(), 1, [([C], 0), ([], GREAT)]), (0, 0))
        self.assertIsNone(legs_step(web_w(), 1, [([], GREAT)], 0))


class ErrorsTest(unittest.TestCase):
    def calls(self, place, legs, last):
        web = web_w()
        return (lambda: legs_sum(web, place, legs), lambda: legs_need(web, place, legs),
                lambda: legs_step(web, place, legs, last), lambda: first_below(web, place, legs, last))

    def test_bad_place(self):
        for place in non_integers() + [-1, 3, 10 ** 30]:
            for call in self.calls(place, None, None) + (lambda: is_legs(web_w(), place, []),):
                with self.assertRaises(BadPlace) as caught:
                    call()
                self.assertIs(caught.exception.place, place)

    def test_bad_legs(self):
        for place, legs in NO_LEGS + [(0, thing) for thing in objects() if thing not in ([], ())]:
            for call in self.calls(place, legs, -1):
                with self.assertRaises(BadLegs) as caught:
                    call()
                self.assertIs(caught.exception.legs, legs)

    def test_bad_number_and_stock(self):
        for thing in non_integers() + [-1, -GREAT]:
            with self.assertRaises(BadNumber) as caught:
                legs_step(web_w(), 0, LONG, thing)
            self.assertIs(caught.exception.number, thing)
            with self.assertRaises(BadStock) as caught:
                first_below(web_w(), 0, LONG, thing)
            self.assertIs(caught.exception.stock, thing)


if __name__ == "__main__":
    unittest.main()
