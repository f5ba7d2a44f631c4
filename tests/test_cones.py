import unittest
from itertools import product
from random import Random

from anyaround.cones import cut, cut_above, dot, least_points, mix_of_two, mix_with_last, point_above, shut_at
from anyaround.passes import inside, least_of, spread_of

from tests.plain import counting_rows, feasible

QUARTER = ((1, 0, 0), (0, 1, 0))
ROOM = ((1, 0, 0), (0, 1, 0), (0, 0, 1))


def drawn(random, many, width, size=6):
    return [tuple(random.randint(-size, size) for _ in range(width)) for _ in range(many)]


def sums(mix, rows, gaps):
    return [sum(gap[k] * mix.get(row, 0) for row, gap in zip(rows, gaps)) for k in range(len(gaps[0]))]


class MixTest(unittest.TestCase):
    def test_of_two(self):
        random = Random(211)
        told = {True: 0, False: 0}
        for _ in range(600):
            many = random.randint(1, 5)
            gaps = drawn(random, many, 2, random.choice([2, 6]))
            rows = [(k,) for k in range(many)]
            mix = mix_of_two(rows, gaps)
            # No mix is there just if some prices, 0 for one of them perhaps, make all gaps dear.
            dear = feasible([(1, 0), (0, 1)] + gaps)
            self.assertEqual(mix is None, dear, gaps)
            told[mix is None] += 1
            if mix is not None:
                self.assertTrue(1 <= len(mix) <= 2 and min(mix.values()) >= 1)
                self.assertTrue(max(sums(mix, rows, gaps)) <= 0)
        self.assertTrue(min(told.values()) > 50)

    def test_with_last(self):
        random = Random(212)
        sizes = {}
        for _ in range(600):
            many = random.randint(1, 6)
            gaps = drawn(random, many, 3, random.choice([2, 6]))
            if random.random() < 0.3:
                gaps = [tuple(-9 if k == number else random.randint(1, 5) for k in range(3)) for number in range(3)] + gaps
                many += 3
            rows = [(k,) for k in range(many)]
            shut = shut_at(ROOM, gaps)
            self.assertEqual(shut is None, feasible(list(ROOM) + gaps))
            self.assertEqual(point_above(ROOM, gaps) is None, shut is not None)
            if shut is None:
                point = point_above(ROOM, gaps)
                self.assertTrue(min(point) > 0 and all(dot(point, gap) > 0 for gap in gaps))
                continue
            mix = mix_with_last(rows[:shut + 1], gaps[:shut + 1])
            self.assertTrue(1 <= len(mix) <= 3 and min(mix.values()) >= 1)
            self.assertTrue(max(sums(mix, rows, gaps)) <= 0)
            sizes[len(mix)] = sizes.get(len(mix), 0) + 1
        self.assertTrue(min(sizes.get(size, 0) for size in (1, 2, 3)) > 20, sizes)

    def test_of_none(self):
        self.assertIsNone(mix_of_two([], []))
        self.assertIsNone(mix_of_two([(1,)], [(0, 1)]))
        self.assertEqual(mix_of_two([(1,)], [(0, 0)]), {(1,): 1})
        self.assertEqual(mix_of_two([(1,), (2,)], [(-2, 4), (3, -6)]), {(1,): 3, (2,): 2})
        self.assertIsNone(mix_of_two([(1,), (2,)], [(-2, 4), (3, -5)]))
        self.assertEqual(point_above(QUARTER, []), (1, 1, 0))


class CutTest(unittest.TestCase):
    def test_cut(self):
        self.assertEqual(cut(ROOM, (1, 1, 0)), ROOM)
        self.assertEqual(sorted(cut(list(ROOM), (1, -1, 0))), [(0, 0, 1), (1, 0, 0), (1, 1, 0)])
        self.assertEqual(cut(list(ROOM), (-1, -1, 0)), [(0, 0, 1)])
        self.assertEqual(cut_above(list(ROOM), (-1, -1, 0)), [])
        self.assertEqual(cut(list(ROOM), (-1, -1, -1)), [])
        self.assertEqual(sorted(cut_above(list(QUARTER), (2, -4, 9))), [(1, 0, 0), (2, 1, 0)])
        self.assertEqual(cut_above([], (1, 1, 1)), [])

    def test_all_points_of_a_cut(self):
        random = Random(213)
        for _ in range(60):
            planes = drawn(random, 3, 3)
            rays = ROOM
            for plane in planes:
                rays = cut(rays, plane)
            for point in product(range(4), repeat=3):
                if all(dot(point, plane) > 0 for plane in planes) and min(point) > 0:
                    self.assertTrue(rays)
            for ray in rays:
                self.assertTrue(min(ray) >= 0 and all(dot(ray, plane) >= 0 for plane in planes))


class LeastTest(unittest.TestCase):
    def test_as_searched(self):
        random = Random(214)
        for _ in range(60):
            points = [(a, b, abs(c) + 1) for a, b, c in drawn(random, random.randint(1, 14), 3, random.choice([3, 9]))]
            rows = random.choice([[], [(1, 1, 1)], [(0, 3, 1), (1, 1, 1), (3, 0, 1)], [(5, -2, 3)]])
            told = least_points(inside(rows, spread_of(points)), lambda ray: least_of(points, ray))
            self.assertEqual(told, counting_rows(points, rows))
        self.assertEqual(least_points(ROOM, lambda ray: None), [])


if __name__ == "__main__":
    unittest.main()
