"""Promises [15.1], [15.2] and of [15.4] put_in: programs, runs, beginnings, what tells programs apart."""

import unittest
from itertools import product
from random import Random

from anyaround.programs import is_beginning, is_program, is_run, put_in, run_apart
from anyaround.refusals import BadProgram, HasHole, NoHole

from tests.brute import objects
from tests.plain_programs import (BUILT, HOLED, beginnings, cut_off, first_apart, holed_programs, no_programs, random_programs,
                                  runs, size, turned)

MANY = random_programs(1, 120) + holed_programs(2, 80)


class IsProgramTest(unittest.TestCase):
    def test_programs(self):
        for program in MANY + ["a", "z9", "abcdefgh", "hole", "behind", BUILT, HOLED, ("hole",), ["hole"],
                               ("often", 10 ** 30, "a"), ("often", 2, ("often", 3, "a"))]:
            self.assertIs(is_program(program), True, program)
            self.assertIs(is_program(turned(program)), True, program)

    def test_none(self):
        for thing in no_programs():
            self.assertIs(is_program(thing), False, thing)
            if not isinstance(thing, (str, dict)):
                self.assertIs(is_program(turned(thing)), False, thing)

    def test_none_within(self):
        for thing in no_programs():
            for around in [("behind", ["a", thing]), ("either", [thing, "a"]), ("again", thing), ("often", 2, thing),
                           ("behind", ["a", ("again", ("either", ["b", thing]))])]:
                self.assertIs(is_program(around), False, around)

    def test_two_holes(self):
        for program in holed_programs(3, 40):
            self.assertTrue(is_program(program))
            self.assertFalse(is_program(("behind", [program, "a", program])))
            self.assertFalse(is_program(("either", [("hole",), program])))
            self.assertFalse(is_program(("often", 2, program)))
            self.assertFalse(is_program(("again", ("often", 3, ("either", ["a", program])))))

    def test_deep(self):
        program = "a"
        for k in range(400):
            program = ("again", program) if k % 2 else ("behind", [program, "b"])
        self.assertTrue(is_program(program))
        self.assertTrue(is_run(program, ["a", "b"] + ["b"] * 199))


class RunTest(unittest.TestCase):
    def test_all_short_lists(self):
        for program in [one for one in MANY if size(one) <= 6][:60]:
            most = 4
            all_runs, all_beginnings = runs(program, most), beginnings(program, most)
            marks = sorted({mark for one in all_beginnings for mark in one if mark is not None}) + [None, "zz"]
            for many in range(most + 1):
                for one in list(product(marks, repeat=many))[:700]:
                    self.assertIs(is_run(program, list(one)), one in all_runs, (program, one))
                    self.assertIs(is_beginning(program, one), one in all_beginnings, (program, one))

    def test_runs_and_near_ones(self):
        random = Random(4)
        for program in MANY:
            all_runs, all_beginnings = runs(program, 6), beginnings(program, 6)
            for run in sorted(cut_off(all_runs, 5), key=str)[:12]:
                self.assertTrue(is_run(program, run))
                self.assertTrue(is_run(turned(program), list(run)))
                self.assertTrue(is_beginning(program, run))
                for k in range(len(run)):
                    self.assertTrue(is_beginning(program, list(run[:k])))
                at = random.randrange(len(run))
                for near in [run[:-1], run + ("a",), run[:at] + (random.choice(["a", "b", None, "x"]),) + run[at + 1:]]:
                    self.assertIs(is_run(program, near), near in all_runs)
                    self.assertIs(is_beginning(program, near), near in all_beginnings)

    def test_again_and_often(self):
        for many in (1, 2, 60):
            self.assertTrue(is_run(("again", "a"), ["a"] * many))
            self.assertTrue(is_run(("behind", [("again", ("behind", ["a", "b"])), "b"]), ["a", "b"] * many + ["b"]))
        self.assertFalse(is_run(("again", "a"), []))
        self.assertTrue(is_beginning(("again", "a"), []))
        often = ("often", 5, ("either", ["a", ("behind", ["a", "a"])]))
        for many in range(13):
            self.assertIs(is_run(often, ["a"] * many), 5 <= many <= 10)
            self.assertIs(is_beginning(often, ["a"] * many), many <= 10)
        great = ("often", 10 ** 30, "a")
        self.assertFalse(is_run(great, ["a"] * 60))
        self.assertTrue(is_beginning(great, ["a"] * 60))
        self.assertTrue(is_run(("often", 3, ("often", 4, "a")), ["a"] * 12))
        self.assertFalse(is_beginning(("often", 3, ("often", 4, "a")), ["a"] * 13))

    def test_any_object(self):
        for program in (BUILT, HOLED, ("hole",), ("again", "ab")):
            for thing in objects():
                run = (program, thing) in [(("hole",), [None]), (("again", "ab"), ["ab"])]
                self.assertIs(is_run(program, thing), run, thing)
                self.assertIs(is_beginning(program, thing), run or thing in ([], ()), thing)
        self.assertTrue(is_run(("hole",), [None]))
        self.assertFalse(is_run(BUILT, ["buy", None]))
        self.assertFalse(is_run(BUILT, ["buy", ["cut"]]))
        self.assertFalse(is_run("a", "a"))
        self.assertFalse(is_beginning("a", "a"))
        self.assertTrue(is_run(HOLED, ("buy", None, "cut")))
        self.assertTrue(is_beginning(HOLED, ["buy", None]))

    def test_example(self):
        self.assertTrue(is_run(BUILT, ["buy", "mill", "cut"]))
        self.assertTrue(is_beginning(BUILT, ["buy"]))
        self.assertFalse(is_run(BUILT, ["buy"]))

    def test_bad_program(self):
        for thing in no_programs():
            for call in (lambda: is_run(thing, []), lambda: is_beginning(thing, None), lambda: run_apart(thing, ()),
                         lambda: run_apart("a", thing), lambda: put_in(thing, ())):
                with self.assertRaises(BadProgram) as caught:
                    call()
                self.assertIs(caught.exception.thing, thing)


class ApartTest(unittest.TestCase):
    def test_like_plainly(self):
        for one, other in zip(MANY, MANY[1:] + MANY[:1]):
            expected = first_apart(one, other, 5)
            told = run_apart(one, other)
            if expected is not None or (told is not None and len(told) <= 5):
                self.assertEqual(told, expected, (one, other))
            self.assertEqual(run_apart(other, one), told)
            self.assertEqual(run_apart(turned(one), other), told)

    def test_is_apart(self):
        for one, other in zip(MANY[::2], MANY[1::2]):
            told = run_apart(one, other)
            if told is not None:
                self.assertNotEqual(is_run(one, told), is_run(other, told))

    def test_same_runs(self):
        for p, q, r in zip(MANY[:40], MANY[40:80], MANY[80:120]):
            for one, other in [
                    (("again", ("again", p)), ("again", p)), (("either", [p, p]), p), (("behind", [p]), p),
                    (("often", 2, p), ("behind", [p, p])), (("either", [p, q]), ("either", [q, p])),
                    (("often", 2, ("often", 2, p)), ("often", 4, p)),
                    (("again", p), ("either", [p, ("behind", [p, ("again", p)])])),
                    (("behind", [p, ("either", [q, r])]), ("either", [("behind", [p, q]), ("behind", [p, r])])),
                    (("behind", [p, ("behind", [q, r])]), ("behind", [p, q, r]))]:
                self.assertIsNone(run_apart(one, other), (one, other))

    def test_far_off(self):
        again = ("again", "a")
        self.assertEqual(run_apart(("behind", [("often", 15, "a"), again]), ("behind", [("often", 14, "a"), again])),
                         ["a"] * 15)
        twos, threes = ("again", ("often", 2, "a")), ("again", ("often", 3, "a"))
        self.assertEqual(run_apart(("either", [twos, threes]), again), ["a"])
        self.assertEqual(run_apart(("either", [twos, threes, "a"]), again), ["a"] * 5)
        self.assertEqual(run_apart(("often", 10 ** 30, "a"), "a"), ["a"])
        one = ("behind", ["a"] * 7 + ["b"])
        self.assertEqual(run_apart(one, ("behind", ["a"] * 7 + ["c"])), ["a"] * 7 + ["b"])

    def test_none_is_first(self):
        self.assertEqual(run_apart(HOLED, ("behind", ["buy", "a", "cut"])), ["buy", None, "cut"])
        self.assertEqual(run_apart(("either", ["a", ("hole",)]), "b"), [None])
        self.assertEqual(run_apart(("either", ["b", "0a"[::-1]]), "c"), ["a0"])
        self.assertIsNone(run_apart(HOLED, turned(HOLED)))


class PutInTest(unittest.TestCase):
    def test_put_in(self):
        self.assertEqual(put_in(HOLED, "a"), ("behind", ["buy", "a", "cut"]))
        self.assertEqual(put_in(["hole"], ["again", "a"]), ("again", "a"))
        program = ["either", (["again", ["hole"]], ("often", 2, "b"))]
        self.assertEqual(put_in(program, ["behind", ("a", ["often", 3, "b"])]),
                         ("either", [("again", ("behind", ["a", ("often", 3, "b")])), ("often", 2, "b")]))

    def test_runs(self):
        for program, filler in zip(holed_programs(5, 40), random_programs(6, 40, deep=2, most=3)):
            told = put_in(turned(program), turned(filler))
            filling = runs(filler, 6)
            expected = set()
            for run in runs(program, 6):
                found = {()}
                for mark in run:
                    more = filling if mark is None else {(mark,)}
                    found = {one + other for one in found for other in more if len(one) + len(other) <= 6}
                expected |= found
            self.assertEqual(runs(told, 6), expected)

    def test_errors(self):
        with self.assertRaises(NoHole):
            put_in(BUILT, ())
        with self.assertRaises(HasHole):
            put_in(HOLED, HOLED)
        for thing in no_programs():
            with self.assertRaises(BadProgram) as caught:
                put_in(HOLED, thing)
            self.assertIs(caught.exception.thing, thing)


if __name__ == "__main__":
    unittest.main()
