import unittest
from random import Random

from anyaround.errors import BadPlace, BadStock, BadWalk
from anyaround.stocks import is_safe, least_on, least_ons, long_walk, longest, need_of, way_on
from anyaround.webs import Web, is_ring, is_walk

from tests.brute import (V_STEPS, W_STEPS, can_go, change, least_ons_by_search, longest_by_search, need, non_integers,
                         objects, random_webs, simple_walks, web_v, web_w)


def changing(*triples):
    """Steps (one, other, change)."""
    return [(one, other, (0, 0), 1, change) for one, other, change in triples]


class NeedTest(unittest.TestCase):
    def test_example(self):
        web = web_v()
        self.assertEqual(need_of(web, [V_STEPS[0], V_STEPS[3]]), (3, 2))

    def test_some(self):
        web = web_w()
        a, b, c, d, e = W_STEPS
        self.assertEqual(need_of(web, []), (0, 0))
        self.assertEqual(need_of(web, ()), (0, 0))
        self.assertEqual(need_of(web, [a, c, c, d]), (2, -2))
        self.assertEqual(need_of(web, [c, c, d, e, e, e]), (2, 1))
        self.assertEqual(need_of(web=web, walk=([2, 2, [3, 0], 1, 1], e)), (0, 2))
        self.assertIs(type(need_of(web, [c])), tuple)

    def test_by_trying(self):
        for web in random_webs(61, 80):
            for place in range(web.places()):
                for walk in simple_walks(web, place):
                    self.assertEqual(need_of(web, walk), (need(walk), change(walk)))

    def test_behind_one_another(self):
        random = Random(62)
        for web in random_webs(63, 60):
            for walk in simple_walks(web, 0):
                cut = random.randint(0, len(walk))
                one, other = need_of(web, walk[:cut]), need_of(web, walk[cut:])
                self.assertEqual(need_of(web, walk), (max(one[0], other[0] - one[1]), one[1] + other[1]))

    def test_bad_walk(self):
        for thing in objects() + [[W_STEPS[0], W_STEPS[4]], [[0, 1, [2, 0], 1, False]]]:
            if thing in ([], ()) and type(thing) in (list, tuple):
                continue
            with self.assertRaises(BadWalk) as caught:
                need_of(web_w(), thing)
            self.assertIs(caught.exception.walk, thing)


class OnTest(unittest.TestCase):
    def test_example(self):
        web = web_v()
        self.assertEqual(least_ons(web), {0: 5, 1: None, 2: None, 3: 0})
        self.assertEqual(way_on(web, 0, 5), ([V_STEPS[2]], [V_STEPS[5]]))
        self.assertIsNone(way_on(web, 0, 4))
        self.assertEqual(longest(web, 0, 4), 2)
        self.assertEqual(longest(web, 0, 0), 0)
        self.assertEqual(long_walk(web, 0, 0), [])
        self.assertEqual(least_on(web_w(), 0), 0)
        self.assertEqual(least_on(web=web, place=1), None)

    def test_without_rings(self):
        self.assertEqual(least_ons(Web(2, [])), {0: None, 1: None})
        self.assertIsNone(way_on(Web(1, []), 0, 1000))
        self.assertEqual(longest(Web(1, []), 0, 60), 0)
        self.assertEqual(least_ons(web=Web(1, changing((0, 0, -1)))), {0: None})
        self.assertEqual(longest(Web(1, changing((0, 0, -1))), 0, 60), 60)

    def test_rings_that_need(self):
        # The ring gains nothing and needs 4 from 0, nothing from 1; a ring that gains is behind a loss of 2.
        web = Web(3, changing((0, 1, -4), (1, 0, 4), (1, 2, -2), (2, 2, 1)))
        self.assertEqual(least_ons(web), {0: 4, 1: 0, 2: 0})
        web = Web(3, changing((0, 1, -4), (1, 0, 3), (1, 2, -2), (2, 2, 1)))
        self.assertEqual(least_ons(web), {0: 6, 1: 2, 2: 0})
        self.assertEqual(list(least_ons(web)), [0, 1, 2])

    def test_by_search(self):
        for web in random_webs(64, 120, change=4) + random_webs(65, 60, change=1):
            on = least_ons(web)
            self.assertEqual(on, least_ons_by_search(web))
            self.assertEqual(list(on), list(range(web.places())))
            self.assertIs(is_safe(web, on), True)
            for place in range(web.places()):
                self.assertEqual(least_on(web, place), on[place])
                for stock in {0, 1, 7, 30, (on[place] or 1) - 1, on[place] or 0, (on[place] or 0) + 1}:
                    if stock >= 0:
                        self.check(web, place, stock, on[place])

    def check(self, web, place, stock, least):
        told = way_on(web, place, stock)
        many = longest(web, place, stock)
        walk = long_walk(web, place, stock)
        self.assertTrue((told is None) != (many is None))
        self.assertTrue((walk is None) == (many is None))
        self.assertEqual(told is not None, least is not None and least <= stock)
        if told is None:
            self.assertEqual(many, longest_by_search(web, place, stock))
            self.assertEqual(len(walk), many)
            self.assertTrue(is_walk(web, walk) and can_go(walk, stock) and type(walk) is list)
            self.assertTrue(not walk or walk[0][0] == place)
            return
        self.assertIs(type(told), tuple)
        ahead, ring = told
        self.assertTrue(is_walk(web, ahead + ring) and is_ring(web, ring))
        self.assertTrue(type(ahead) is list and type(ring) is list)
        self.assertEqual((ahead + ring)[0][0], place)
        self.assertGreaterEqual(change(ring), 0)
        self.assertTrue(can_go(ahead + ring * 5, stock))

    def test_great_changes(self):
        web = Web(2, changing((0, 0, -1), (0, 1, -10 ** 40), (1, 0, 10 ** 40)))
        self.assertEqual(least_ons(web), {0: 10 ** 40, 1: 0})
        ahead, ring = way_on(web, 0, 10 ** 40)
        self.assertTrue(can_go(ahead + ring * 3, 10 ** 40))

    def test_great_web(self):
        random = Random(66)
        steps = {(random.randrange(60), random.randrange(60), (0, 0), 1, random.randint(-400, 100))
                 for _ in range(300)}
        web = Web(60, list(steps))
        on = least_ons(web)
        self.assertTrue(is_safe(web, on))
        for place in on:
            if on[place]:
                self.assertFalse(is_safe(web, {**on, place: on[place] - 1}))
                self.assertTrue(can_go(sum(way_on(web, place, on[place]), []), on[place]))

    def test_longest_by_ends(self):
        web = Web(2, changing((0, 0, -3), (0, 1, -1), (1, 0, 0)))
        self.assertEqual(longest(web, 0, 5), 10)
        self.assertEqual(longest(web=web, place=1, stock=5), 11)
        self.assertEqual(len(long_walk(web=web, place=1, stock=5)), 11)
        self.assertIsNone(way_on(web=web, place=1, stock=60))

    def test_new_each_time(self):
        web = web_v()
        least_ons(web).clear()
        told = way_on(web, 0, 5)
        told[0].clear()
        told[1].clear()
        self.assertEqual(way_on(web, 0, 5), ([V_STEPS[2]], [V_STEPS[5]]))
        long_walk(web, 0, 4).clear()
        self.assertEqual(len(long_walk(web, 0, 4)), 2)
        self.assertEqual(long_walk(web, 0, 4), long_walk(Web(4, [list(step) for step in V_STEPS[::-1]]), 0, 4))

    def test_errors(self):
        web = web_v()
        for thing in [4, -1] + non_integers():
            with self.assertRaises(BadPlace) as caught:
                least_on(web, thing)
            self.assertIs(caught.exception.place, thing)
        for function in (way_on, longest, long_walk):
            for thing in [4, -1] + non_integers():
                with self.assertRaises(BadPlace) as caught:
                    function(web, thing, "no stock")
                self.assertIs(caught.exception.place, thing)
            for thing in [-1, -10 ** 20] + non_integers():
                with self.assertRaises(BadStock) as caught:
                    function(web, 0, thing)
                self.assertIs(caught.exception.stock, thing)


class SafeTest(unittest.TestCase):
    def holds(self, web, thing):
        """Whether a dict from all places to numbers or None is safe."""
        return all(thing[place] is None or any(
            step[0] == place and thing[step[1]] is not None and thing[step[1]] <= thing[place] + step[4]
            for step in web.steps()) for place in thing)

    def test_otherwise(self):
        random = Random(67)
        for web in random_webs(68, 60, change=4):
            told = least_ons(web)
            self.assertIs(is_safe(web, {place: told[place] for place in reversed(list(told))}), True)
            for key in told:
                for other in (0, 1, 2, 5, 10 ** 6, None, (told[key] or 0) + 1, max(0, (told[key] or 0) - 1)):
                    thing = {**told, key: other}
                    self.assertIs(is_safe(web, thing), self.holds(web, thing))
                    if self.holds(web, thing):
                        self.assertTrue(thing[key] is None or told[key] is not None and told[key] <= thing[key])
                for other in (-1, True, False, "1", [], (0,)):
                    self.assertIs(is_safe(web, {**told, key: other}), False)
                short = dict(told)
                del short[key]
                self.assertIs(is_safe(web, short), False)
                self.assertIs(is_safe(web, {**short, str(key): told[key]}), False)
            self.assertIs(is_safe(web, {**told, web.places(): None}), False)
            self.assertIs(is_safe(web, {**told, -1: None}), False)
            self.assertIs(is_safe(web, list(told.items())), False)
            for _ in range(5):
                thing = {place: random.choice([None, random.randint(0, 12)]) for place in told}
                self.assertIs(is_safe(web, thing), self.holds(web, thing))

    def test_bool_keys(self):
        web = Web(2, changing((0, 1, 0), (1, 0, 0)))
        self.assertIs(is_safe(web, {0: 0, 1: 0}), True)
        self.assertIs(is_safe(web, {False: 0, 1: 0}), False)
        self.assertIs(is_safe(web, {0: 0, True: 0}), False)
        self.assertIs(is_safe(web=web, thing={0: None, 1: None}), True)

    def test_any_object(self):
        for thing in objects():
            self.assertIs(is_safe(web_w(), thing), False)
        single = Web(1, changing((0, 0, 0)))
        for thing in objects():
            good = type(thing) is dict and len(thing) == 1 and list(thing)[0] == 0 and type(list(thing)[0]) is int
            good = good and type(thing[0]) is int
            self.assertIs(is_safe(single, thing), good)


if __name__ == "__main__":
    unittest.main()
