import unittest
from random import Random

from anyaround.errors import BadPlace, BadStock, BadWanted
from anyaround.stairs import covers, is_cover, most_out, stairs, way_out
from anyaround.webs import Web, is_walk

from tests.brute import (V_STEPS, can_go, change, most_by_search, need, non_integers, objects, random_web,
                         random_webs, simple_walks, web_v, web_w)


def changing(*triples):
    """Steps (one, other, change)."""
    return [(one, other, (0, 0), 1, change) for one, other, change in triples]


def by_stairs(pairs, stock):
    """The most that stairs tell of a stock."""
    told = -1
    for need_of, gain in pairs:
        if need_of <= stock:
            told = None if gain is None else stock + gain
    return told


class StairsTest(unittest.TestCase):
    def test_example(self):
        web = web_v()
        self.assertEqual(stairs(web, 0, 2), [(1, -1), (3, 2), (5, None)])
        self.assertEqual([most_out(web, 0, 2, stock) for stock in (0, 2, 3, 4, 5)], [-1, 1, 5, 6, None])
        self.assertEqual(stairs(web_w(), 0, 2), [(0, None)])
        self.assertEqual(stairs(web_w(), 1, 1), [(0, 0)])
        self.assertEqual(stairs(web_w(), 2, 0), [])
        self.assertEqual(most_out(web=web_w(), place=2, other=0, stock=1000), -1)
        self.assertEqual(stairs(web=web, place=3, other=3), [(0, None)])

    def test_same_place(self):
        self.assertEqual(stairs(Web(1, []), 0, 0), [(0, 0)])
        self.assertEqual(most_out(Web(1, []), 0, 0, 0), 0)
        self.assertEqual(way_out(Web(1, []), 0, 0, 3, 3), [])
        self.assertIsNone(way_out(Web(1, []), 0, 0, 3, 4))
        # Round by 1 one gains, with 7 to begin with.
        self.assertEqual(stairs(Web(2, changing((0, 1, -7), (1, 0, 8))), 0, 0), [(0, 0), (7, None)])

    def test_ring_at_the_side(self):
        # The ring that gains needs less from its other place; from a third one no way leads on.
        web = Web(4, changing((0, 1, -2), (1, 0, 3), (1, 2, -6), (3, 3, 9), (2, 3, 0)))
        self.assertEqual(stairs(web, 0, 2), [(2, None)])
        self.assertEqual(stairs(web, 1, 2), [(0, None)])
        web = Web(4, changing((0, 1, -2), (1, 2, -6), (2, 3, 0), (3, 3, 9)))
        self.assertEqual(stairs(web, 0, 2), [(8, -8)])
        self.assertEqual(stairs(web, 0, 3), [(8, None)])

    def test_by_search(self):
        random = Random(71)
        for web in random_webs(72, 120, change=3) + random_webs(73, 60, change=6):
            place, other = random.randrange(web.places()), random.randrange(web.places())
            told = stairs(web, place, other)
            self.assertTrue(type(told) is list and all(type(one) is tuple for one in told))
            self.check_form(told)
            simple = {(need(walk), change(walk)) for walk in simple_walks(web, place)
                      if (walk[-1][1] if walk else place) == other}
            self.assertTrue(all(one in simple for one in told if one[1] is not None))
            stocks = {0, 1, 5, 20, 60} | {stock for one in told for stock in (one[0] - 1, one[0], one[0] + 1)}
            for stock in sorted(stocks):
                if stock >= 0:
                    most = most_by_search(web, place, stock).get(other, -1)
                    self.assertEqual(most_out(web, place, other, stock), most)
                    self.assertEqual(by_stairs(told, stock), most)
                    self.check_way(web, place, other, stock, most)

    def test_long_ways(self):
        # Rings that gain little, and much that is wanted; and one that gains 9 and loses 8 on its way.
        steps = [(0, 4, 0), (1, 2, 1), (2, 3, 0), (3, 5, 0), (4, 1, 0), (5, 0, 0)]
        little = Web(6, changing(*steps))
        losing = Web(6, changing(*[(one, other, {(1, 2): 9, (4, 1): -8}.get((one, other), 0)) for one, other, _ in steps]))
        for web, stock, wanted in [(little, 0, 1000), (losing, 8, 1000), (losing, 0, 1000), (losing, 1, 1),
                                   (little, 1000, 1001), (little, 0, 10 ** 5)]:
            walk = way_out(web, 1, 1, stock, wanted)
            self.assertTrue(type(walk) is list and is_walk(web, walk))
            self.assertTrue(walk == [] or walk[0][0] == 1 and walk[-1][1] == 1)
            self.assertTrue(can_go(walk, stock))
            self.assertGreaterEqual(stock + change(walk), wanted)
            self.assertEqual(way_out(web, 1, 1, stock, wanted), walk)
            many = len(walk)
            self.assertLessEqual(many, 6 * max(0, wanted - stock))
            walk.clear()
            self.assertEqual(len(way_out(web, 1, 1, stock, wanted)), many)
        self.assertEqual(way_out(little, 1, 1, 1000, 1000), [])
        self.assertLessEqual(len(way_out(Web(1, changing((0, 0, 5))), 0, 0, 0, 1000)), 200)
        # Round the ring and then on, by a way that loses.
        web = Web(4, changing((0, 1, -2), (1, 1, 1), (1, 2, -50), (2, 3, 7), (2, 2, -1)))
        self.assertEqual(stairs(web, 0, 3), [(2, None)])
        walk = way_out(web, 0, 3, 2, 900)
        self.assertTrue(is_walk(web, walk) and can_go(walk, 2) and walk[-1][1] == 3 and 2 + change(walk) >= 900)
        self.assertIsNone(way_out(web, 0, 3, 1, 0))

    def test_less_need_comes_later(self):
        # A longer way that needs less, and gains less, than a shorter one; and one that beats it.
        web = Web(5, changing((0, 1, -5), (1, 3, 8), (0, 2, -1), (2, 4, 0), (4, 3, 0)))
        self.assertEqual(stairs(web, 0, 3), [(1, -1), (5, 3)])
        web = Web(5, changing((0, 1, -5), (1, 3, 8), (0, 2, -1), (2, 4, 3), (4, 3, 1)))
        self.assertEqual(stairs(web, 0, 3), [(1, 3)])
        web = Web(5, changing((0, 1, -5), (1, 3, 8), (0, 2, -1), (2, 4, 3), (4, 3, 0)))
        self.assertEqual(stairs(web, 0, 3), [(1, 2), (5, 3)])

    def test_needs_of_rings(self):
        # What a ring needs hangs on the place where one comes into it, and on all of its steps.
        steps = [(0, 1, -1), (1, 2, -5), (2, 0, 9)]
        for place, need_there in [(0, 6), (1, 5), (2, 0)]:
            web = Web(4, changing(*steps, (place, 3, 0)))
            told = {start: stairs(web, start, 3) for start in range(3)}
            self.assertEqual(told[place][-1], (need_there, None))
            self.assertEqual([told[start][-1] for start in range(3)], [(6, None), (5, None), (0, None)])
        self.assertEqual(stairs(Web(3, changing(*steps)), 0, 0), [(0, 0), (6, None)])
        # Without a ring by a longer way that needs less than the ring.
        web = Web(6, changing((0, 1, -5), (1, 1, 1), (1, 5, 0), (0, 2, -1), (2, 3, 0), (3, 4, 0), (4, 5, 0)))
        self.assertEqual(stairs(web, 0, 5), [(1, -1), (5, None)])

    def test_dense(self):
        random = Random(76)
        endless = 0
        for k in range(150):
            web = random_web(random, random.randint(3, 6), random.randint(8, 14), change=random.choice([1, 2, 4, 9]))
            place, other = random.randrange(web.places()), random.randrange(web.places())
            told = stairs(web, place, other)
            self.check_form(told)
            endless += bool(told) and told[-1] == (told[-1][0], None) and told[-1][0] > 0
            stocks = {0, 2} | {stock for one in told for stock in (one[0] - 1, one[0])}
            for stock in stocks - {-1}:
                self.assertEqual(by_stairs(told, stock), most_by_search(web, place, stock).get(other, -1))
        self.assertGreater(endless, 9)

    def test_many_ways(self):
        random = Random(74)
        for web in random_webs(75, 60, change=5):
            for _ in range(20):
                place, other = random.randrange(web.places()), random.randrange(web.places())
                stock, wanted = random.randint(0, 30), random.choice([0, 3, 20, 1000])
                most = most_by_search(web, place, stock).get(other, -1)
                walk = way_out(web, place, other, stock, wanted)
                self.assertEqual(walk is None, most is not None and most < wanted)
                if walk is not None:
                    self.assertTrue(is_walk(web, walk) and can_go(walk, stock))
                    self.assertEqual(walk[0][0] if walk else other, place)
                    self.assertTrue((walk[-1][1] if walk else place) == other and stock + change(walk) >= wanted)

    def test_great_numbers(self):
        web = Web(3, changing((0, 1, -10 ** 6), (1, 0, 10 ** 6 + 1), (1, 2, -10 ** 9), (0, 0, -1)))
        self.assertEqual(stairs(web, 0, 2), [(10 ** 6, None)])
        self.assertEqual(stairs(web, 1, 2), [(0, None)])
        web = Web(3, changing((0, 0, 1), (0, 1, -10 ** 6), (1, 2, 0), (1, 1, 5), (0, 2, -3)))
        self.assertEqual(stairs(web, 0, 2), [(0, None)])
        self.assertEqual(stairs(web, 1, 2), [(0, None)])

    def check_form(self, pairs):
        needs = [one[0] for one in pairs]
        gains = [one[1] for one in pairs]
        self.assertEqual(needs, sorted(set(needs)))
        self.assertNotIn(None, gains[:-1])
        numbers = [gain for gain in gains if gain is not None]
        self.assertEqual(numbers, sorted(set(numbers)))
        self.assertTrue(all(one[1] is None or one[0] + one[1] >= 0 for one in pairs))

    def check_way(self, web, place, other, stock, most):
        top = stock + 40 if most is None else most
        for wanted in {0, 1, max(0, top - 1), max(0, top)}:
            walk = way_out(web, place, other, stock, wanted)
            if most is not None and most < wanted:
                self.assertIsNone(walk)
                continue
            self.assertTrue(type(walk) is list and is_walk(web, walk) and can_go(walk, stock))
            self.assertEqual(walk[-1][1] if walk else place, other)
            self.assertTrue(not walk or walk[0][0] == place)
            self.assertGreaterEqual(stock + change(walk), wanted)
        if most is not None:
            self.assertIsNone(way_out(web, place, other, stock, most + 1))

    def test_at_what_is_most(self):
        web = web_v()
        self.assertEqual(way_out(web, 0, 2, 3, 5), [V_STEPS[0], V_STEPS[3]])
        self.assertIsNone(way_out(web, 0, 2, 3, 6))
        self.assertIsNone(way_out(web=web, place=0, other=2, stock=0, wanted=0))
        walk = way_out(web, 0, 2, 5, 1000)
        self.assertTrue(can_go(walk, 5) and 5 + change(walk) >= 1000 and walk[-1][1] == 2)

    def test_great_changes(self):
        great = 10 ** 40
        web = Web(3, changing((0, 1, -great), (1, 2, great + 5), (0, 2, -3), (2, 2, -1)))
        self.assertEqual(stairs(web, 0, 2), [(3, -3), (great, 5)])
        web = Web(3, changing((0, 1, -great), (1, 1, 1), (1, 2, -great), (0, 2, -3)))
        self.assertEqual(stairs(web, 0, 2), [(3, -3), (great, None)])

    def test_great_web(self):
        random = Random(74)
        steps = {(random.randrange(60), random.randrange(60), (0, 0), 1, random.randint(-400, 30))
                 for _ in range(250)}
        web = Web(60, list(steps))
        for other in (1, 2, 3, 4):
            told = stairs(web, 0, other)
            self.check_form(told)
            for one in told:
                self.assertEqual(most_out(web, 0, other, one[0]), None if one[1] is None else one[0] + one[1])
            if told and told[0][0]:
                self.assertEqual(most_out(web, 0, other, told[0][0] - 1), -1)

    def test_same_each_time(self):
        again = Web(4, [list(step) for step in V_STEPS[::-1]])
        self.assertEqual(way_out(web_v(), 0, 2, 9, 50), way_out(again, 0, 2, 9, 50))
        told = stairs(again, 0, 2)
        told.clear()
        self.assertEqual(stairs(again, 0, 2), stairs(web_v(), 0, 2))
        way_out(again, 0, 2, 9, 50).clear()
        self.assertEqual(way_out(web_v(), 0, 2, 9, 50), way_out(again, 0, 2, 9, 50))

    def test_errors(self):
        web = web_v()
        rests = {most_out: ["x"], stairs: [], way_out: ["x", "x"]}
        for function, rest in rests.items():
            for thing in [4, -1] + non_integers():
                with self.assertRaises(BadPlace) as caught:
                    function(web, thing, "y", *rest)
                self.assertIs(caught.exception.place, thing)
                with self.assertRaises(BadPlace) as caught:
                    function(web, 0, thing, *rest)
                self.assertIs(caught.exception.place, thing)
        for thing in [-1] + non_integers():
            with self.assertRaises(BadStock) as caught:
                most_out(web, 0, 2, thing)
            self.assertIs(caught.exception.stock, thing)
            with self.assertRaises(BadStock) as caught:
                way_out(web, 0, 2, thing, "x")
            self.assertIs(caught.exception.stock, thing)
            with self.assertRaises(BadWanted) as caught:
                way_out(web, 0, 2, 0, thing)
            self.assertIs(caught.exception.wanted, thing)


def holds(web, place, stock, thing):
    """Whether a dict from places to numbers or None is a cover."""
    def at_least(one, other):
        return one is None or (other is not None and one >= other)
    if place not in thing or not at_least(thing[place], stock):
        return False
    for step in web.steps():
        if step[0] in thing:
            has = thing[step[0]]
            if has is None:
                if step[1] not in thing or thing[step[1]] is not None:
                    return False
            elif has + step[4] >= 0:
                if step[1] not in thing or not at_least(thing[step[1]], has + step[4]):
                    return False
    return True


class CoverTest(unittest.TestCase):
    def test_example(self):
        self.assertEqual(covers(web_v(), 0, 4), {0: 4, 1: 1, 2: 6})
        self.assertEqual(covers(web=web_v(), place=0, stock=5), {0: 5, 1: 2, 2: None, 3: None})
        self.assertEqual(covers(web_w(), 0, 0), {0: 0, 1: 0, 2: None})
        self.assertEqual(covers(Web(2, []), 1, 3), {1: 3})

    def test_by_search(self):
        random = Random(81)
        for web in random_webs(82, 150, change=4):
            place = random.randrange(web.places())
            for stock in (0, 1, 3, 8, 25):
                told = covers(web, place, stock)
                self.assertEqual(told, most_by_search(web, place, stock))
                self.assertEqual(list(told), sorted(told))
                self.assertIs(is_cover(web, place, stock, told), True)
                for other in range(web.places()):
                    self.assertEqual(told.get(other, -1), most_out(web, place, other, stock))

    def test_great_web(self):
        random = Random(83)
        steps = {(random.randrange(200), random.randrange(200), (0, 0), 1, random.randint(-40, 10))
                 for _ in range(900)}
        web = Web(200, list(steps))
        for stock in (0, 30, 70, 100, 1000):
            self.assertTrue(is_cover(web, 0, stock, covers(web, 0, stock)))

    def test_greater_ones(self):
        for web in random_webs(84, 60, change=4):
            for stock in (0, 2, 9):
                more = covers(web, 0, stock + 3)
                self.assertIs(is_cover(web, 0, stock, more), True)
                self.assertIs(is_cover(web, 0, stock, {place: None for place in range(web.places())}), True)
                self.assertIs(is_cover(web, 0, stock, {place: more[place] for place in reversed(list(more))}), True)

    def test_otherwise(self):
        random = Random(85)
        for web in random_webs(86, 80, change=4):
            place = random.randrange(web.places())
            stock = random.choice([0, 1, 4, 9])
            told = covers(web, place, stock)
            for key in range(web.places()):
                for other in (None, 0, 1, 5, 10 ** 6, (told.get(key) or 0) + 1, max(0, (told.get(key) or 0) - 1)):
                    thing = {**told, key: other}
                    self.assertIs(is_cover(web, place, stock, thing), holds(web, place, stock, thing))
                for other in (-1, True, False, "1", [], (0,)):
                    self.assertIs(is_cover(web, place, stock, {**told, key: other}), False)
                short = {at: told[at] for at in told if at != key}
                self.assertIs(is_cover(web, place, stock, short), holds(web, place, stock, short))
            self.assertIs(is_cover(web, place, stock, {**told, web.places(): 10}), False)
            self.assertIs(is_cover(web, place, stock, {**told, -1: 10}), False)
            self.assertIs(is_cover(web, place, stock, {**told, "0": 10}), False)
            self.assertIs(is_cover(web, place, stock, list(told.items())), False)
            self.assertIs(is_cover(web=web, place=place, stock=stock, thing={}), False)

    def test_bool_keys(self):
        web = Web(2, changing((0, 1, 0)))
        self.assertIs(is_cover(web, 0, 0, {0: 0, 1: 0}), True)
        self.assertIs(is_cover(web, 0, 0, {False: 0, 1: 0}), False)
        self.assertIs(is_cover(web, 0, 0, {0: 0, True: 0}), False)
        self.assertIs(is_cover(web, 1, 0, {True: 0}), False)

    def test_any_object(self):
        for thing in objects():
            self.assertIs(is_cover(web_w(), 0, 0, thing), False)
        single = Web(1, changing((0, 0, 0)))
        for thing in objects():
            good = type(thing) is dict and len(thing) == 1 and list(thing)[0] == 0 and type(list(thing)[0]) is int
            good = good and type(thing[0]) is int
            self.assertIs(is_cover(single, 0, 0, thing), good)

    def test_errors(self):
        web = web_v()
        for function in (covers, lambda web, place, stock: is_cover(web, place, stock, 5)):
            for thing in [4, -1] + non_integers():
                with self.assertRaises(BadPlace) as caught:
                    function(web, thing, "x")
                self.assertIs(caught.exception.place, thing)
            for thing in [-1] + non_integers():
                with self.assertRaises(BadStock) as caught:
                    function(web, 0, thing)
                self.assertIs(caught.exception.stock, thing)


if __name__ == "__main__":
    unittest.main()
