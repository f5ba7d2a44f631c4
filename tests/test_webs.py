import copy
import unittest
from random import Random

from anyaround.errors import BadPlace, BadPlaces, BadSteps, BadWalk
from anyaround.webs import Web, is_ring, is_walk, lots, reached, sum_of

from tests.brute import (W_STEPS, non_integers, non_lists, objects, part_p, random_webs, reached_from, rings_at,
                         rings_from, simple_walks, web_v, web_w)


class WebTest(unittest.TestCase):
    def test_told(self):
        web = Web(3, list(reversed(W_STEPS)))
        self.assertEqual(web.places(), 3)
        self.assertEqual(web.steps(), sorted(W_STEPS))
        self.assertEqual(Web(1, []).steps(), [])
        self.assertEqual(Web(places=2, steps=()).places(), 2)

    def test_kinds_told(self):
        web = Web(3, [[one, other, list(amounts), ticks, change] for one, other, amounts, ticks, change in W_STEPS])
        self.assertEqual(web.steps(), W_STEPS)
        self.assertIs(type(web.steps()), list)
        for step in web.steps():
            self.assertIs(type(step), tuple)
            self.assertIs(type(step[2]), tuple)
        self.assertEqual(Web(3, tuple(W_STEPS)), web)

    def test_new_each_time_and_later_changes(self):
        steps = [[0, 1, [2, 0], 1, 0], [1, 0, [0, 2], 1, 0]]
        kept = copy.deepcopy(steps)
        web = Web(3, steps)
        self.assertEqual(steps, kept)
        steps[0][2][0] = 9
        steps[0][0] = 2
        steps.append("x")
        self.assertEqual(web.steps(), [(0, 1, (2, 0), 1, 0), (1, 0, (0, 2), 1, 0)])
        web.steps().clear()
        self.assertIsNot(web.steps(), web.steps())
        self.assertEqual(len(web.steps()), 2)

    def test_not_changed_in_what_is_passed(self):
        steps = [[1, 0, [0, 2], 1, 0], [0, 1, [2, 0], 1, 0]]
        Web(3, steps)
        self.assertEqual(steps, [[1, 0, [0, 2], 1, 0], [0, 1, [2, 0], 1, 0]])

    def test_equal(self):
        self.assertEqual(web_w(), Web(3, W_STEPS[::-1]))
        self.assertNotEqual(web_w(), Web(4, W_STEPS))
        self.assertNotEqual(web_w(), Web(3, W_STEPS[1:]))
        for thing in objects():
            if not isinstance(thing, Web):
                self.assertFalse(web_w() == thing)
                self.assertTrue(web_w() != thing)
        self.assertFalse(part_p().web() == part_p())

    def test_parallel_steps(self):
        web = Web(1, [(0, 0, (0, 0), 1, 1), (0, 0, (0, 0), 1, 0), (0, 0, (0, 0), 2, 0), (0, 0, (0, -1), 1, 0)])
        self.assertEqual(len(web.steps()), 4)
        self.assertEqual(web.steps()[0], (0, 0, (0, -1), 1, 0))

    def test_bad_places(self):
        for thing in [0, -1] + non_integers():
            with self.assertRaises(BadPlaces) as caught:
                Web(thing, "no list")
            self.assertIs(caught.exception.places, thing)

    def test_bad_steps_no_list(self):
        for thing in non_lists():
            with self.assertRaises(BadSteps) as caught:
                Web(2, thing)
            self.assertEqual(caught.exception.index, 0)

    def bad(self, steps, index):
        for things in (steps, tuple(steps)):
            with self.assertRaises(BadSteps) as caught:
                Web(2, things)
            self.assertEqual(caught.exception.index, index)

    def test_bad_steps(self):
        good = (0, 1, (0, 0), 1, 0)
        for thing in objects() + [
                (0, 2, (0, 0), 1, 0), (2, 0, (0, 0), 1, 0), (-1, 0, (0, 0), 1, 0), (0, -1, (0, 0), 1, 0),
                (0, 1, (0, 0), 0, 0), (0, 1, (0, 0), -1, 0), (0, 1, (0,), 1, 0), (0, 1, (0, 0, 0), 1, 0),
                (0, 1, (0, 0), 1), (0, 1, (0, 0), 1, 0, 0), (False, 1, (0, 0), 1, 0), (0, True, (0, 0), 1, 0),
                (0, 1, (False, 0), 1, 0), (0, 1, (0, True), 1, 0), (0, 1, (0, 0), True, 0), (0, 1, (0, 0), 1, False),
                (0, 1, "00", 1, 0), (0, 1, {0: 0, 1: 0}, 1, 0), (0, 1, 0, 1, 0), (None, 1, (0, 0), 1, 0),
                (0, 1, (0, None), 1, 0), (0, 1, (0, 0), "1", 0), (0, 1, (0, 0), 1, []), ([0], 1, (0, 0), 1, 0)]:
            self.bad([thing], 0)
            self.bad([good, thing], 1)
            self.bad([good, thing, thing], 1)
        self.bad([good, good], 1)
        self.bad([good, (0, 1, (0, 0), 1, 1), [0, 1, [0, 0], 1, 0]], 2)

    def test_no_limit_by_size(self):
        web = Web(70, [(k, (k + 1) % 70, (10 ** 30, -10 ** 30), 10 ** 9, 10 ** 40) for k in range(70)])
        self.assertEqual(lots(web), [list(range(70))])


class WalksTest(unittest.TestCase):
    def test_walks(self):
        web = web_w()
        a, b, c, d, e = W_STEPS
        for walk in ([], [a], [a, b], [a, c, c, d, e, e], (), (a, b), [list(a), [1, 0, [0, 2], 1, 0]]):
            self.assertTrue(is_walk(web, walk))
        for thing in ([a, a], [b, c], [a, (1, 0, (0, 2), 1, 1)], [a, None], [(0, True, (2, 0), 1, 0)],
                      [(0, 1, (2, 0), True, 0)], [(False, 1, (2, 0), 1, 0)], [(0, 1, (2, False), 1, 0)],
                      [(0, 1, (2, 0), 1, False)], a, [a, [b]], {0: a}, [(0, 1, (3, 0), 1, 0)], [a, d, d]):
            self.assertIs(is_walk(web, thing), False)
        self.assertIs(is_walk(web=web, thing=[a]), True)

    def test_any_object(self):
        for thing in objects():
            self.assertIs(is_walk(web_w(), thing), thing in ([], ()) and type(thing) in (list, tuple))
            self.assertIs(is_ring(web_w(), thing), False)

    def test_rings(self):
        web = web_w()
        a, b, c, d, e = W_STEPS
        for ring in ([a, b], [b, a], [c], [e], ([2, 2, [3, 0], 1, 1],), (list(a), b)):
            self.assertIs(is_ring(web, ring), True)
        for thing in ([], [a], [a, b, a, b], [a, c, b], [c, c], [d], [a, d], [b, a, c], [e, e], a):
            self.assertIs(is_ring(web, thing), False)
        self.assertIs(is_ring(web=web, thing=[c]), True)

    def test_rings_of_all_walks(self):
        random = Random(3)
        for web in random_webs(1, 60):
            place = random.randrange(web.places())
            rings = rings_at(web, place)
            for ring in rings[:20]:
                self.assertIs(is_ring(web, ring), True)
                self.assertIs(is_ring(web, ring + ring), False)
            for walk in simple_walks(web, place)[:20]:
                self.assertIs(is_walk(web, walk), True)
                self.assertIs(is_ring(web, walk), False)

    def test_sum_of(self):
        web = web_w()
        a, b, c, d, e = W_STEPS
        self.assertEqual(sum_of(web, []), ((0, 0), 0, 0))
        self.assertEqual(sum_of(web, ()), ((0, 0), 0, 0))
        self.assertEqual(sum_of(web, [a, c, c, d, e, e, e]), ((11, 6), 7, 1))
        self.assertEqual(sum_of(web, (list(a), b)), ((2, 2), 2, 0))
        self.assertEqual(sum_of(web=web, walk=[e]), ((3, 0), 1, 1))
        self.assertIs(type(sum_of(web, [e])), tuple)
        self.assertIs(type(sum_of(web, [e])[0]), tuple)

    def test_sum_of_no_walk(self):
        a, b, c, d, e = W_STEPS
        for thing in objects() + [[b, d], [a, [a]], [(0, True, (2, 0), 1, 0)]]:
            if thing in ([], ()) and type(thing) in (list, tuple):
                continue
            with self.assertRaises(BadWalk) as caught:
                sum_of(web_w(), thing)
            self.assertIs(caught.exception.walk, thing)


class ReachedTest(unittest.TestCase):
    def test_example(self):
        web = web_w()
        self.assertEqual(lots(web), [[0, 1], [2]])
        self.assertEqual(reached(web, 2), [2])
        self.assertEqual(reached(web, 0), [0, 1, 2])
        self.assertEqual(reached(web=web, place=1), [0, 1, 2])
        self.assertEqual(len(rings_from(web, 0)), 4)

    def test_without_rings(self):
        self.assertEqual(lots(Web(1, [])), [])
        self.assertEqual(reached(Web(2, []), 1), [1])
        self.assertEqual(lots(Web(3, [(0, 1, (0, 0), 1, 0), (1, 2, (0, 0), 1, 0)])), [])
        self.assertEqual(lots(web_v()), [[3]])
        self.assertEqual(lots(web=Web(2, [(1, 1, (0, 0), 1, 0), (0, 0, (0, 0), 1, 0)])), [[0], [1]])

    def test_new_each_time(self):
        web = web_w()
        lots(web)[0].append(5)
        reached(web, 0).append(5)
        self.assertEqual(lots(web), [[0, 1], [2]])
        self.assertEqual(reached(web, 0), [0, 1, 2])

    def test_by_search(self):
        for web in random_webs(2, 150):
            ahead = [reached_from(web, place) for place in range(web.places())]
            for place in range(web.places()):
                self.assertEqual(reached(web, place), ahead[place])
            together = []
            for place in range(web.places()):
                lot = [other for other in ahead[place] if place in ahead[other]]
                if rings_at(web, place) and lot not in together:
                    together.append(lot)
            self.assertEqual(lots(web), together)
            for ring in [ring for place in range(web.places()) for ring in rings_at(web, place)]:
                self.assertTrue([lot for lot in lots(web) if all(step[0] in lot for step in ring)])

    def test_bad_place(self):
        for thing in [3, -1, 10 ** 20] + non_integers():
            with self.assertRaises(BadPlace) as caught:
                reached(web_w(), thing)
            self.assertIs(caught.exception.place, thing)


if __name__ == "__main__":
    unittest.main()
