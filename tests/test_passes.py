import unittest
from fractions import Fraction
from math import gcd
from random import Random

from anyaround.errors import BadDoor
from anyaround.parts import Part
from anyaround.passes import corners
from anyaround.rates import rate_at
from anyaround.rows import bends, best_rows

from tests.brute import P_STEPS, non_integers, part_p, per_tick, random_webs, rings_from, triple


def whole(first, second, third):
    """The triple of integers without a common divisor that a triple of fractions is some times of."""
    bottom = first.denominator * second.denominator * third.denominator
    numbers = [int(number * bottom) for number in (first, second, third)]
    return tuple(number // gcd(*numbers) for number in numbers)


class CornersTest(unittest.TestCase):
    def test_example(self):
        self.assertEqual(corners(part_p(), 0), [(1, 0, -2), (0, 1, 0), (0, 0, 1)])
        without = Part(3, [step for step in P_STEPS if step[0] != step[1]], [0], [2])
        self.assertEqual(corners(without, 0), [(1, 0, 0), (0, 1, 0), (0, 0, 1), (0, 0, -1)])

    def test_rows_of_each_door(self):
        steps = [(0, 0, (3, 1), 2, 0), (0, 0, (0, 7), 3, 0), (1, 1, (-4, 2), 6, 0), (0, 2, (0, 0), 1, 0)]
        part = Part(4, steps, [1, 0, 3], [2])
        self.assertEqual(corners(part, 0), [(3, 0, 2), (0, 3, -1), (0, 0, 1)])
        # The bend of (0, 7, 3) and (3, 1, 2) is (11, 9), where both cost 21 per tick.
        self.assertEqual(bends(part.web(), 0), [(11, 9)])
        self.assertEqual(corners(part, 1), [(1, 0, 0), (11, 9, -21), (0, 2, -1), (0, 0, 1)])
        self.assertEqual(corners(part=part, door=2), [(1, 0, 0), (0, 1, 0), (0, 0, 1), (0, 0, -1)])

    def test_new_each_time(self):
        part = part_p()
        corners(part, 0).clear()
        self.assertEqual(len(corners(part, 0)), 3)
        self.assertTrue(all(type(one) is tuple for one in corners(part, 0)))

    def test_as_written(self):
        for web in random_webs(51, 100):
            if web.places() < 2:
                continue
            part = Part(web.places(), web.steps(), [0], [1])
            best = best_rows(web, 0)
            if not best:
                self.assertEqual(corners(part, 0), [(1, 0, 0), (0, 1, 0), (0, 0, 1), (0, 0, -1)])
                continue
            wanted = [whole(Fraction(1), Fraction(0), -per_tick(best[0])[0])]
            for p, q in bends(web, 0):
                wanted.append(whole(Fraction(p), Fraction(q), -Fraction(*rate_at(web, 0, (p, q)))))
            wanted += [whole(Fraction(0), Fraction(1), -per_tick(best[-1])[1]), (0, 0, 1)]
            self.assertEqual(corners(part, 0), wanted)

    def test_bound_what_is_inside(self):
        # (p, q, m) is inside or beside it just if each ring comes to 0 at least.
        random = Random(5)
        for web in random_webs(52, 60):
            if web.places() < 2:
                continue
            part = Part(web.places(), web.steps(), [0], [1])
            told = corners(part, 0)
            rows = [triple(ring) for ring in rings_from(web, 0)]
            for p, q, m in told:
                self.assertTrue(p >= 0 and q >= 0)
                for row in rows:
                    self.assertGreaterEqual(p * row[0] + q * row[1] + m * row[2], 0)
            for _ in range(10):
                times = [random.randint(0, 3) for _ in told]
                sums = [sum(many * one[k] for many, one in zip(times, told)) for k in range(3)]
                for row in rows:
                    self.assertGreaterEqual(sum(x * y for x, y in zip(sums, row)), 0)

    def test_bad_door(self):
        for thing in [1, -1] + non_integers():
            with self.assertRaises(BadDoor) as caught:
                corners(part_p(), thing)
            self.assertIs(caught.exception.number, thing)


if __name__ == "__main__":
    unittest.main()
