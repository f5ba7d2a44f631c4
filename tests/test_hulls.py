import unittest
from random import Random

from anyaround.hulls import alone, in_order, mix_upto, prices_above

from tests.brute import mean, per_tick, shares


class HullsTest(unittest.TestCase):
    def test_alone(self):
        self.assertEqual(alone([]), [])
        self.assertEqual(alone([(5, 5, 1)]), [(5, 5, 1)])
        # Rows above others, beside others, and on the line between others are not alone.
        self.assertEqual(alone([(0, 4, 1), (0, 5, 1), (1, 9, 1), (2, 2, 1), (4, 0, 1), (5, 0, 1), (9, 1, 1)]),
                         [(0, 4, 1), (4, 0, 1)])
        self.assertEqual(alone([(4, 0, 1), (3, 0, 1), (0, 0, 1)]), [(0, 0, 1)])

    def test_by_shares(self):
        random = Random(91)
        for _ in range(300):
            points = {}
            for _ in range(random.randint(1, 9)):
                row = (random.randint(-6, 6), random.randint(-6, 6), random.randint(1, 3))
                points[per_tick(row)] = row
            rows = list(points.values())
            line = alone(rows)
            self.assertEqual(line, in_order([row for row in rows
                                             if shares(row, [one for one in rows if one != row], True)]))
            self.assertEqual([per_tick(row) for row in in_order(rows)], sorted(points))
            point = (random.randint(-6, 6), random.randint(-6, 6), random.randint(1, 3))
            mix, prices = mix_upto(line, point), prices_above(line, point)
            self.assertTrue((mix is None) != (prices is None))
            first, second = per_tick(point)
            if mix is not None:
                self.assertTrue(mean(mix)[0] <= first and mean(mix)[1] <= second)
            else:
                for row in rows:
                    a, b = per_tick(row)
                    self.assertGreater(prices[0] * a + prices[1] * b, prices[0] * first + prices[1] * second)


if __name__ == "__main__":
    unittest.main()
