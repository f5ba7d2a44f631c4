"""Promises [15.5] and of [15.7] the forms: forms by programs, however often things are done."""

import unittest
from random import Random

from anyaround.copies import often
from anyaround.errors import BadKind
from anyaround.formparts import is_form
from anyaround.kinds import alike, form
from anyaround.programforms import program_form
from anyaround.programparts import program_part
from anyaround.refusals import BadProgram, BadWorks, BareHole, NoWork

from tests.plain import KINDS
from tests.plain_programs import (BUILT, HOLED, WORKS, clothed_programs, no_programs, random_programs,
                                  turned, works_for)
from tests.test_programparts import BARE, distinct

GREAT = 10 ** 30


class LikePartsTest(unittest.TestCase):
    def test_without_a_hole(self):
        random = Random(21)
        for program in random_programs(22, 150) + random_programs(23, 40, most=16):
            for kind in KINDS:
                works = works_for(random, kind)
                told = program_form(program, works, kind)
                self.assertEqual(told, form(program_part(program, works), kind), (program, works, kind))
                self.assertTrue(is_form(told, kind))
                self.assertEqual(program_form(turned(program), works, kind), told)

    def test_with_a_hole(self):
        random = Random(24)
        for program in clothed_programs(25, 80):
            for kind in KINDS:
                works = works_for(random, kind)
                told = program_form(program, works, kind)
                self.assertEqual(told, form(program_part(program, works), kind), (program, works, kind))

    def test_example(self):
        self.assertEqual(program_form(BUILT, WORKS, "rates"), [([(0, 3, 2), (2, 0, 1)], [[(1, 4, 3), (3, 1, 2)]])])
        self.assertEqual(program_form(BUILT, WORKS, "budgets"), [[[(1, 4), (3, 1)]]])
        self.assertEqual(program_form(BUILT, WORKS, "through"), [[[(0, 2)]]])
        self.assertEqual(program_form(BUILT, WORKS, "on"), [(0, [[]])])
        self.assertEqual(program_form(HOLED, WORKS, "through"), [[[], [(0, 2)]], [[(1, -1)], []]])
        with self.assertRaises(BareHole):
            program_form(("behind", ["buy", ("hole",)]), WORKS, "through")


class FactsTest(unittest.TestCase):
    def test_alike(self):
        random = Random(26)
        programs = random_programs(27, 90, deep=2, most=4)
        for p, q, r in zip(programs[:30], programs[30:60], programs[60:]):
            many, more = random.randint(2, 3), random.randint(2, 3)
            pairs = [(("again", ("again", p)), ("again", p)),
                     (("often", many, ("often", more, p)), ("often", many * more, p)),
                     (("again", p), ("either", [p, ("behind", [p, ("again", p)])])),
                     (("behind", [p, ("either", [q, r])]), ("either", [("behind", [p, q]), ("behind", [p, r])]))]
            for kind in KINDS:
                works = works_for(random, kind)
                more_pairs = []
                if kind in ("rates", "prices", "budgets"):
                    more_pairs.append((("behind", [p, q]), ("behind", [q, p])))
                if kind in ("rates", "prices"):
                    more_pairs.append((("often", many, ("either", [p, q])),
                                       ("either", [("often", many, p), ("often", many, q)])))
                for one, other in pairs + more_pairs:
                    self.assertEqual(program_form(one, works, kind), program_form(other, works, kind), (one, kind))

    def test_need_not_be_alike(self):
        works = {"a": ((0, 2), 1, -2), "b": ((2, 0), 1, 3)}
        for kind in ("through", "on"):
            self.assertNotEqual(program_form(("behind", ["a", "b"]), works, kind),
                                program_form(("behind", ["b", "a"]), works, kind))
        turns = {"a": ((0, 2), 1, 0), "b": ((2, 0), 1, 0)}
        self.assertNotEqual(program_form(("often", 2, ("either", ["a", "b"])), turns, "budgets"),
                            program_form(("either", [("often", 2, "a"), ("often", 2, "b")]), turns, "budgets"))

    def test_same_runs_same_forms(self):
        random = Random(28)
        for program in random_programs(29, 40):
            for kind in KINDS:
                works = works_for(random, kind)
                again = ("either", [("behind", [program]), program])
                self.assertTrue(alike(program_part(program, works), program_part(again, works), kind))
                self.assertEqual(program_form(program, works, kind), program_form(again, works, kind))


class GreatTest(unittest.TestCase):
    def test_often(self):
        random = Random(30)
        for program in random_programs(31, 60, deep=3, most=6):
            for kind in ("rates", "through", "on", "prices"):
                works = works_for(random, kind)
                inner = program_form(program, works, kind)
                for many in (2, 7, 1000, GREAT):
                    told = program_form(("often", many, program), works, kind)
                    self.assertEqual(told, often(inner, kind, many), (program, works, kind))
                    self.assertTrue(is_form(told, kind))

    def test_within(self):
        works = {"a": ((3, -1), 2, -2), "b": ((-1, 2), 1, 3), "c": ((0, 0), 5, -1)}
        program = ("behind", [("often", GREAT, "b"), ("often", GREAT, ("either", ["a", "c"])), "a"])
        self.assertEqual(program_form(program, works, "through"), [[[(0, 2 * GREAT - 2)]]])
        self.assertEqual(program_form(("behind", [("often", GREAT, "a"), "b"]), works, "through"),
                         [[[(2 * GREAT, 3 - 2 * GREAT)]]])
        self.assertEqual(program_form(("either", [program, ("often", 10, "a")]), works, "on"),
                         [(None, [[(0, 2 * GREAT - 2)]])])
        rates = program_form(("again", ("often", GREAT, ("behind", ["a", "b"]))), works, "rates")
        self.assertEqual(rates, [([(2, 1, 3)], [[(2 * GREAT, GREAT, 3 * GREAT)]])])
        nested = ("often", GREAT, ("often", GREAT, "c"))
        self.assertEqual(program_form(nested, works, "rates"), [([], [[(0, 0, 5 * GREAT * GREAT)]])])

    def test_ways_of_loss(self):
        # With much stock the first way gains, with little only the second one can be gone, which loses.
        works = {"a": ((0, 0), 1, -8), "b": ((0, 0), 1, 9), "c": ((0, 0), 1, -1)}
        inner = ("either", [("behind", ["a", "b"]), "c"])
        self.assertEqual(program_form(inner, works, "through"), [[[(1, -1), (8, 1)]]])
        self.assertEqual(program_form(("often", GREAT, inner), works, "through"), [[[(8, GREAT)]]])
        self.assertEqual(program_form(("again", inner), works, "through"), [[[(1, -1), (8, None)]]])
        self.assertEqual(program_form(("again", inner), works, "on"), [(8, [[(1, -1)]])])


class ErrorsTest(unittest.TestCase):
    def test_in_order(self):
        for thing in no_programs():
            with self.assertRaises(BadProgram) as caught:
                program_form(thing, None, None)
            self.assertIs(caught.exception.thing, thing)
        for program in BARE:
            with self.assertRaises(BadWorks) as caught:
                program_form(program, 3, None)
            with self.assertRaises(BareHole):
                program_form(program, distinct(), None)
        with self.assertRaises(NoWork) as caught:
            program_form(("behind", ["buy", "zz", ("hole",)]), WORKS, None)
        self.assertEqual(caught.exception.name, "zz")
        for program in (BUILT, HOLED, ("often", GREAT, "buy")):
            for kind in (None, "rate", 1, ["rates"], "", ("rates",)):
                with self.assertRaises(BadKind) as caught:
                    program_form(program, WORKS, kind)
                self.assertIs(caught.exception.kind, kind)


if __name__ == "__main__":
    unittest.main()
