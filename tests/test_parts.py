import copy
import unittest
from random import Random

from anyaround.errors import BadDoor, BadIns, BadOuts, BadPlaces, BadSteps, BadWays
from anyaround.parts import Part, closed, is_pass
from anyaround.rates import rate_at
from anyaround.webs import Web

from tests.brute import P_STEPS, non_integers, non_lists, objects, part_p, random_webs, simple_walks, web_w


class PartTest(unittest.TestCase):
    def test_told(self):
        part = Part(4, P_STEPS, [3, 0], (2, 1))
        self.assertEqual(part.web(), Web(4, P_STEPS))
        self.assertEqual(part.ins(), [3, 0])
        self.assertEqual(part.outs(), [2, 1])
        self.assertIs(type(part.ins()), list)
        self.assertIs(type(part.outs()), list)
        self.assertEqual(Part(places=2, steps=[], ins=[0], outs=[1]).ins(), [0])

    def test_new_each_time_and_later_changes(self):
        steps = [list(step) for step in P_STEPS]
        steps[0][2] = [1, 1]
        ins, outs = [0], [2]
        kept = copy.deepcopy((steps, ins, outs))
        part = Part(3, steps, ins, outs)
        self.assertEqual((steps, ins, outs), kept)
        steps[0][2][0] = 8
        steps.clear()
        ins.append(1)
        outs[0] = 1
        self.assertEqual(part, part_p())
        part.ins().append(4)
        part.outs().clear()
        part.web().steps().clear()
        self.assertEqual((part.ins(), part.outs(), part.web().steps()), ([0], [2], sorted(P_STEPS)))

    def test_equal(self):
        self.assertEqual(part_p(), Part(3, [list(step) for step in P_STEPS[::-1]], (0,), (2,)))
        self.assertNotEqual(part_p(), Part(4, P_STEPS, [0], [2]))
        self.assertNotEqual(part_p(), Part(3, P_STEPS[1:], [0], [2]))
        self.assertNotEqual(part_p(), Part(3, P_STEPS, [1], [2]))
        self.assertNotEqual(part_p(), Part(3, P_STEPS, [0], [1]))
        self.assertNotEqual(Part(3, P_STEPS, [0, 1], [2]), Part(3, P_STEPS, [1, 0], [2]))
        self.assertNotEqual(Part(3, P_STEPS, [0], [1, 2]), Part(3, P_STEPS, [0], [2, 1]))
        for thing in objects():
            if not isinstance(thing, Part):
                self.assertFalse(part_p() == thing)
                self.assertTrue(part_p() != thing)

    def bad(self, error, index, *passed):
        with self.assertRaises(error) as caught:
            Part(*passed)
        self.assertEqual(caught.exception.index, index)

    def test_errors_of_webs_first(self):
        for thing in [0, -2] + non_integers():
            with self.assertRaises(BadPlaces) as caught:
                Part(thing, None, None, None)
            self.assertIs(caught.exception.places, thing)
        for thing in non_lists():
            self.bad(BadSteps, 0, 3, thing, None, None)
        self.bad(BadSteps, 1, 3, [P_STEPS[0], P_STEPS[0]], [], [])

    def test_bad_ins(self):
        for thing in non_lists() + [[], ()]:
            self.bad(BadIns, 0, 3, P_STEPS, thing, None)
        for thing in [3, -1] + non_integers():
            self.bad(BadIns, 0, 3, P_STEPS, [thing, 0], [2])
            self.bad(BadIns, 1, 3, P_STEPS, (0, thing, thing), [2])
        self.bad(BadIns, 1, 3, P_STEPS, [0, 0], [2])
        self.bad(BadIns, 2, 3, P_STEPS, [1, 0, 1, 5], None)

    def test_bad_outs(self):
        for thing in non_lists() + [[], ()]:
            self.bad(BadOuts, 0, 3, P_STEPS, [0], thing)
        for thing in [3, -1, 0, 1] + non_integers():
            self.bad(BadOuts, 0, 3, P_STEPS, [0, 1], [thing, 2])
            self.bad(BadOuts, 1, 3, P_STEPS, [1, 0], (2, thing, thing))
        self.bad(BadOuts, 1, 3, P_STEPS, [0], [2, 2])


class PassTest(unittest.TestCase):
    def test_passes(self):
        part = part_p()
        a, b, c, d = P_STEPS
        for thing in ([d], [a, c], [a, b, b, c], (a, c), [list(a), [1, 2, [1, 0], 1, 0]]):
            self.assertIs(is_pass(part, 0, 0, thing), True)
        for thing in ([], [a], [c], [a, b], [a, a, c], [b, c], [a, c, c], [(0, 2, (0, 4), True, 0)],
                      [(False, 2, (0, 4), 1, 0)], [(0, 2, (0, 4), 1, 1)], d, {0: d}, [a, None, c]):
            self.assertIs(is_pass(part, 0, 0, thing), False)
        for thing in objects():
            self.assertIs(is_pass(part, 0, 0, thing), False)
        self.assertIs(is_pass(part=part, i=0, j=0, thing=[d]), True)

    def test_through_other_doors(self):
        steps = [(0, 1, (0, 0), 1, 0), (1, 2, (0, 0), 1, 0), (2, 3, (0, 0), 1, 0), (3, 0, (0, 0), 1, 0)]
        part = Part(4, steps, [0, 1], [3, 2])
        self.assertIs(is_pass(part, 0, 0, steps[:3]), True)
        self.assertIs(is_pass(part, 0, 0, steps[:3] + steps), False)
        self.assertIs(is_pass(part, 0, 0, steps + steps[:3]), True)
        self.assertIs(is_pass(part, 0, 1, steps[:2]), True)
        self.assertIs(is_pass(part, 1, 1, steps[1:2]), True)
        self.assertIs(is_pass(part, 1, 0, steps[1:3]), True)
        self.assertIs(is_pass(part, 0, 0, steps[1:3]), False)
        self.assertIs(is_pass(part, 1, 1, steps[:2]), False)

    def test_by_walks(self):
        for web in random_webs(41, 60):
            if web.places() < 2:
                continue
            part = Part(web.places(), web.steps(), [1], [0])
            for start in range(web.places()):
                for walk in simple_walks(web, start):
                    good = bool(walk) and start == 1 and walk[-1][1] == 0
                    self.assertIs(is_pass(part, 0, 0, walk), good)

    def test_bad_door(self):
        part = Part(4, P_STEPS, [0, 1], [2])
        for thing in [2, -1, 10 ** 9] + non_integers():
            with self.assertRaises(BadDoor) as caught:
                is_pass(part, thing, "no door", [])
            self.assertIs(caught.exception.number, thing)
        for thing in [1, -1] + non_integers():
            with self.assertRaises(BadDoor) as caught:
                is_pass(part, 1, thing, [])
            self.assertIs(caught.exception.number, thing)


class ClosedTest(unittest.TestCase):
    def test_example(self):
        web = closed(part_p(), [(0, 0, (0, 0), 1, 0)])
        self.assertEqual(web, Web(3, P_STEPS + [(2, 0, (0, 0), 1, 0)]))
        self.assertEqual(rate_at(web, 0, (1, 1)), (1, 1))
        self.assertEqual(rate_at(closed(part_p(), []), 0, (1, 1)), (2, 1))

    def test_no_ways(self):
        part = part_p()
        self.assertEqual(closed(part, []), part.web())
        self.assertEqual(closed(part=part, ways=()), part.web())
        self.assertIsInstance(closed(part, []), Web)

    def test_steps_alike_are_one(self):
        # The way back comes out as the part's own step from 2 to 0.
        part = Part(3, P_STEPS + [(2, 0, (5, 5), 2, 1)], [0], [2])
        self.assertEqual(closed(part, [(0, 0, (5, 5), 2, 1)]), part.web())
        self.assertEqual(closed(part, [[0, 0, [5, 5], 2, 1], (0, 0, (5, 5), 2, 0)]),
                         Web(3, part.web().steps() + [(2, 0, (5, 5), 2, 0)]))
        self.assertEqual(part, Part(3, P_STEPS + [(2, 0, (5, 5), 2, 1)], [0], [2]))

    def test_doors(self):
        part = Part(5, [], [3, 1], [0, 4])
        web = closed(part, ((1, 0, (400, -400), 400, -400), (0, 1, (0, 0), 1, 0)))
        self.assertEqual(web, Web(5, [(4, 3, (400, -400), 400, -400), (0, 1, (0, 0), 1, 0)]))
        many = Part(5, [], [3], [0, 4])
        self.assertEqual(closed(many, [(1, 0, (1, 2), 3, 4)]), Web(5, [(4, 3, (1, 2), 3, 4)]))
        many = Part(5, [], [3, 2], [0])
        self.assertEqual(closed(many, [(0, 1, (1, 2), 3, 4)]), Web(5, [(0, 2, (1, 2), 3, 4)]))

    def test_part_stays(self):
        part = part_p()
        ways = [[0, 0, [1, 1], 1, 1]]
        web = closed(part, ways)
        self.assertEqual(part, part_p())
        self.assertEqual(ways, [[0, 0, [1, 1], 1, 1]])
        ways[0][2][0] = 9
        self.assertEqual(web, Web(3, P_STEPS + [(2, 0, (1, 1), 1, 1)]))

    def bad(self, part, ways, index):
        with self.assertRaises(BadWays) as caught:
            closed(part, ways)
        self.assertEqual(caught.exception.index, index)

    def test_bad_ways(self):
        part = Part(4, P_STEPS, [0, 1], [2])
        good = (0, 1, (0, 0), 1, 0)
        for thing in non_lists():
            self.bad(part, thing, 0)
        for thing in objects() + [(1, 0, (0, 0), 1, 0), (0, 2, (0, 0), 1, 0), (-1, 0, (0, 0), 1, 0),
                                  (0, -1, (0, 0), 1, 0), (0, 0, (0, 0), 0, 0), (False, 0, (0, 0), 1, 0),
                                  (0, True, (0, 0), 1, 0), (0, 0, (0, True), 1, 0), (0, 0, (0, 0), True, 0),
                                  (0, 0, (0, 0), 1, False), (0, 0, (0, 0), 1), (0, 0, (0, 0, 0), 1, 0), list(good)]:
            self.bad(part, [good, thing], 1)
            self.bad(part, (good, (0, 0, (0, 0), 1, 0), thing, thing), 2)
        self.bad(part, [[1, 0, [0, 0], 1, 0]], 0)
        self.bad(Part(4, P_STEPS, [0], [2, 3]), [(1, 0, (0, 0), 1, 0), (0, 1, (0, 0), 1, 0)], 1)


if __name__ == "__main__":
    unittest.main()
