"""Promises [15.3] and [15.4]: the parts of programs, walks and names, programs put into the hole."""

import unittest
from random import Random

from anyaround.errors import BadWalk
from anyaround.holes import filled
from anyaround.kinds import alike
from anyaround.parts import is_pass
from anyaround.programparts import names_of, program_part, walk_of
from anyaround.programs import is_beginning, is_run, put_in
from anyaround.refusals import BadProgram, BadWorks, BareHole, NoBeginning, NoWork
from anyaround.webs import is_walk

from tests.brute import objects
from tests.plain import KINDS
from tests.plain_programs import (BUILT, HOLED, WORKS, beginnings, behind_hole, clothed_programs, holed_programs,
                                  is_bare_plainly, no_programs, random_programs, random_works, runs, turned,
                                  up_to_none, works_for)

PLAIN = random_programs(11, 60)
HOLES = clothed_programs(12, 120)
BARE = [("hole",), ("behind", ["a", ("hole",)]), ("behind", [("hole",), "a"]), ("again", ("hole",)),
        ("either", ["a", ("hole",)]), ("behind", ["a", ("again", ("hole",)), "b"]),
        ("behind", ["a", ("either", [("again", ("hole",)), "b"]), "b"]), ("again", ("behind", ["a", ("hole",)])),
        ("again", ("behind", [("either", ["a", "b"]), ("either", [("hole",), "b"])]))]
NO_WORKS = [{"a": ((0, 0), 0, 0)}, {"a": ((0, 0), -1, 0)}, {"a": ((0, 0), 1)}, {"a": ((0, 0), 1, 0, 0)}, {"a": None},
            {"a": ((0,), 1, 0)}, {"a": ((0, 0, 0), 1, 0)}, {"a": (0, 1, 0)}, {"a": ((True, 0), 1, 0)}, {"A": ((0, 0), 1, 0)},
            {"a": ((0, 0), True, 0)}, {"a": ((0, 0), 1, False)}, {"": ((0, 0), 1, 0)}, {"toolonger": ((0, 0), 1, 0)},
            {"a": ((0, 0), 1, 0), 1: ((0, 0), 1, 0)}, {"a": ((0, 0), 1, 0), "b": 3}, {"a": "abc"}, {"a": ((0, "0"), 1, 0)}]


def distinct(names="abcde"):
    """Works of which each has something else."""
    return {name: ((k, -k), k + 1, 3 - k) for k, name in enumerate(names)}


def walks_by_works(web, place, most):
    """A dict from what walks of at most so many steps have, step by step, to the places where they end."""
    layer = {(): {place}}
    found = dict(layer)
    for _ in range(most):
        longer = {}
        for gone, ends in layer.items():
            for step in web.steps():
                if step[0] in ends:
                    longer.setdefault(gone + (step[2:],), set()).add(step[1])
        found.update(longer)
        layer = longer
    return found


def by_works(lists, works):
    return {tuple(works[name] for name in one) for one in lists}


class PartTest(unittest.TestCase):
    def check(self, program, works, door, most, all_beginnings, outs):
        part = program_part(turned(program), turned(works) if works is None else works)
        found = walks_by_works(part.web(), part.ins()[door], most)
        self.assertEqual(set(found), by_works(all_beginnings, works), program)
        for out, expected in outs.items():
            told = {gone for gone, ends in found.items() if gone and part.outs()[out] in ends}
            self.assertEqual(told, by_works(expected, works), (program, door, out))

    def test_without_a_hole(self):
        random = Random(13)
        for program in PLAIN:
            for works in (distinct(), random_works(random), {name: ((1, 1), 1, 1) for name in "abcde"}):
                part = program_part(program, works)
                self.assertEqual((len(part.ins()), len(part.outs())), (1, 1))
                self.check(program, works, 0, 5, beginnings(program, 5), {0: runs(program, 5)})

    def test_with_a_hole(self):
        for program in HOLES:
            works, most = distinct(), 4
            part = program_part(program, works)
            self.assertEqual((len(part.ins()), len(part.outs())), (2, 2))
            begun = beginnings(program, most + 1)
            whole = {one for one in begun if None not in one and len(one) <= most}
            self.check(program, works, 0, most, whole, {
                0: {one for one in runs(program, most) if None not in one}, 1: up_to_none(begun)})
            begun = behind_hole(program, most + 1, True)
            whole = {one for one in begun if None not in one and len(one) <= most}
            ended = {one for one in behind_hole(program, most, False) if None not in one}
            self.check(program, works, 1, most, whole, {0: ended, 1: up_to_none(begun)})

    def test_bare(self):
        works = distinct()
        for program in BARE:
            self.assertTrue(is_bare_plainly(program))
            for call in (lambda: program_part(program, works), lambda: walk_of(program, works, None),
                         lambda: names_of(program, works, None)):
                with self.assertRaises(BareHole):
                    call()
        for program in holed_programs(14, 150):
            if is_bare_plainly(program):
                with self.assertRaises(BareHole):
                    program_part(program, works)
            else:
                program_part(program, works)

    def test_filled_is_put_in(self):
        random = Random(15)
        for program, filler in zip(HOLES[:40], random_programs(16, 40, deep=2, most=3)):
            for kind in KINDS:
                works = works_for(random, kind)
                whole = filled(program_part(program, works), program_part(filler, works))
                self.assertTrue(alike(whole, program_part(put_in(program, filler), works), kind), (program, filler))

    def test_more_works(self):
        self.assertEqual(program_part("a", {**distinct(), "zz": ((0, 0), 1, 0)}), program_part("a", distinct()))
        self.assertEqual(program_part(BUILT, WORKS), program_part(turned(BUILT), {
            name: turned(work) for name, work in reversed(list(WORKS.items()))}))


class WalksTest(unittest.TestCase):
    def test_of_beginnings(self):
        random = Random(17)
        for program in PLAIN + HOLES[:60]:
            works = random_works(random)
            part = program_part(program, works)
            for names in sorted(one for one in beginnings(program, 4) if None not in one):
                walk = walk_of(program, works, list(names))
                self.assertIs(type(walk), list)
                self.assertTrue(is_walk(part.web(), walk))
                self.assertEqual([step[2:] for step in walk], [works[name] for name in names])
                self.assertTrue(not walk or walk[0][0] == part.ins()[0])
                if is_run(program, names):
                    self.assertTrue(is_pass(part, 0, 0, walk))
                told = names_of(program, works, turned(walk))
                self.assertIs(type(told), list)
                self.assertTrue(is_beginning(program, told))
                self.assertEqual([works[name] for name in told], [works[name] for name in names])
                self.assertEqual(walk_of(turned(program), works, names), walk)

    def test_of_walks(self):
        random = Random(18)
        for program in PLAIN + HOLES[:40]:
            works = {name: random.choice([((1, 0), 1, 0), ((0, 1), 2, -1)]) for name in "abcde"}
            part = program_part(program, works)
            for _ in range(20):
                place, walk = part.ins()[0], []
                while len(walk) < 6:
                    ahead = [step for step in part.web().steps() if step[0] == place]
                    if not ahead:
                        break
                    walk.append(random.choice(ahead))
                    place = walk[-1][1]
                names = names_of(program, works, walk)
                self.assertEqual([works[name] for name in names], [step[2:] for step in walk])
                self.assertTrue(is_beginning(program, names))
                self.assertNotIn(None, names)
                if place == part.outs()[0]:
                    self.assertTrue(is_run(program, names))

    def test_no_beginning(self):
        for program, works in ((BUILT, WORKS), (HOLED, WORKS)):
            for names in objects() + [["cut"], ["buy", "buy"], ["buy", None], [None], ("buy", "cut", "buy"), ["buy", 1],
                                      "buy", {"buy": 1}, [["buy"]]]:
                if names in ([], ()):
                    self.assertEqual(walk_of(program, works, names), [])
                    continue
                with self.assertRaises(NoBeginning) as caught:
                    walk_of(program, works, names)
                self.assertIs(caught.exception.names, names)

    def test_bad_walk(self):
        part = program_part(HOLED, WORKS)
        behind = [step for step in part.web().steps() if step[0] == part.ins()[1]]
        first = [step for step in part.web().steps() if step[0] == part.ins()[0]]
        for walk in objects() + [behind, [first[0][:4]], [first[0][:2] + ((9, 9), 1, 0)], first + first, first + behind,
                                 [(first[0][0], first[0][1], (True, 1), 1, 2)], first[0]]:
            if walk in ([], ()):
                self.assertEqual(names_of(HOLED, WORKS, walk), [])
                continue
            with self.assertRaises(BadWalk) as caught:
                names_of(HOLED, WORKS, walk)
            self.assertIs(caught.exception.walk, walk)
        self.assertEqual(names_of(HOLED, WORKS, first[:1]), ["buy"])


class ErrorsTest(unittest.TestCase):
    def calls(self, program, works):
        return (lambda: program_part(program, works), lambda: walk_of(program, works, None),
                lambda: names_of(program, works, None))

    def test_bad_program_is_first(self):
        for thing in no_programs():
            for call in self.calls(thing, None):
                with self.assertRaises(BadProgram) as caught:
                    call()
                self.assertIs(caught.exception.thing, thing)

    def test_bad_works(self):
        for program in (("behind", ["zz", ("hole",)]), "zz"):
            for works in NO_WORKS + [thing for thing in objects() if thing != {}]:
                for call in self.calls(program, works):
                    with self.assertRaises(BadWorks) as caught:
                        call()
                    self.assertIs(caught.exception.works, works)

    def test_no_work(self):
        program = ("behind", [("hole",), ("either", ["buy", ("often", 2, "wait")]), "rest"])
        for works, name in ((WORKS, "wait"), ({}, "buy"), ({"wait": ((0, 0), 1, 0), "buy": WORKS["buy"]}, "rest")):
            for call in self.calls(program, works):
                with self.assertRaises(NoWork) as caught:
                    call()
                self.assertEqual(caught.exception.name, name)


if __name__ == "__main__":
    unittest.main()
