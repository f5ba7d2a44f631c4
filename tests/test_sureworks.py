"""Promises [15.6] and of [15.7] the last ones: what holds whatever the works are."""

import unittest
from collections import Counter
from fractions import Fraction
from math import gcd
from random import Random

from anyaround.errors import BadKind
from anyaround.kinds import never_worse, worth_in
from anyaround.programparts import program_part
from anyaround.refusals import BadProgram, HasHole
from anyaround.simplex import shares_for
from anyaround.sureworks import are_sure_papers, once_counts, parting_works, sure_papers

from tests.brute import objects
from tests.plain_programs import (BUILT, HOLED, agains, counts, no_programs, once_runs, random_programs, runs, size,
                                  turned, works_for)

PAIRS = list(zip(random_programs(41, 120), random_programs(42, 120)))
PAIRS += [(p, ("either", [p, q])) for p, q in PAIRS[:30]] + [(("again", p), ("behind", [p, p])) for p, _ in PAIRS[:20]]
PAIRS += [(("either", [("often", 2, p), ("often", 2, q)]), ("behind", [p, q])) for p, q in PAIRS[:20] if size(p) + size(q) < 9]
TWICE = ("either", [("often", 2, "cut"), ("often", 2, "mill")])
EACH = ("behind", ["cut", "mill"])
CUTS, MILLS, BOTH = (("cut", 2),), (("mill", 2),), (("cut", 1), ("mill", 1))


def names_of(program):
    return {name for count in counts(once_runs(program)) for name, _ in count}


def total(times):
    """What counts, so many times each, have together, name by name."""
    found = {}
    for count, many in times.items():
        for name, often in count:
            found[name] = found.get(name, 0) + many * often
    return found


def are_plainly(one, other, kind, papers):
    """Whether papers are right, by their sums."""
    once, rounds = counts(once_runs(one)), counts([run for part in agains(one) for run in once_runs(part)])
    asked = counts(once_runs(other)), counts([run for part in agains(other) for run in once_runs(part)])
    first, second = papers
    if sorted(first) != asked[0] or sorted(second) != (asked[1] if kind == "rates" else []):
        return False
    for count, (mix, more) in first.items():
        if not mix or not set(mix) <= set(once) or not set(more) <= set(rounds):
            return False
        many = sum(mix.values())
        wanted = {name: many * often for name, often in count}
        found = total(mix)
        if kind == "prices":
            if more or any(often > wanted.get(name, 0) for name, often in found.items()):
                return False
        elif total(more) != {name: wanted.get(name, 0) - found.get(name, 0) for name in set(wanted) | set(found)
                                 if wanted.get(name, 0) != found.get(name, 0)}:
            return False
    return all(more and set(more) <= set(rounds) and total(more) == {name: many * often for name, often in count}
               for count, (many, more) in second.items())


class CountsTest(unittest.TestCase):
    def test_plainly(self):
        for program in random_programs(43, 150):
            rounds = counts([run for part in agains(program) for run in once_runs(part)])
            told = once_counts(turned(program))
            self.assertEqual(told, (counts(once_runs(program)), rounds))
            self.assertEqual(list(map(type, told)), [list, list])

    def test_facts(self):
        for program in [one for one in random_programs(44, 60) if agains(one)][:20]:
            once, rounds = once_counts(program)
            sums = set(once)
            for _ in range(4):
                sums |= {tuple(sorted((Counter(dict(one)) + Counter(dict(more))).items()))
                         for one in sums for more in rounds}
            for run in runs(program, 5):
                self.assertIn(counts([run])[0], sums, (program, run))

    def test_example(self):
        self.assertEqual(once_counts(BUILT), ([(("buy", 1), ("cut", 1)), (("buy", 1), ("mill", 1))],
                                              [(("cut", 1),), (("mill", 1),)]))
        self.assertEqual(once_counts("a"), ([(("a", 1),)], []))
        self.assertEqual(once_counts(("again", ("behind", ["a", ("again", ("either", ["b", "a"]))]))),
                         ([(("a", 1), ("b", 1)), (("a", 2),)], [(("a", 1),), (("a", 1), ("b", 1)), (("a", 2),),
                                                                (("b", 1),)]))

    def test_great_often(self):
        self.assertEqual(once_counts(("often", 10 ** 30, "a")), ([(("a", 10 ** 30),)], []))


class JustOneTest(unittest.TestCase):
    def test_papers_or_works(self):
        random = Random(45)
        seen = set()
        for one, other in PAIRS:
            for kind in ("rates", "prices"):
                papers, parting = sure_papers(one, other, kind), parting_works(one, other, kind)
                self.assertNotEqual(papers is None, parting is None)
                seen.add((kind, papers is None))
                if papers is not None:
                    self.check_papers(random, one, other, kind, papers)
                else:
                    self.check_works(one, other, kind, parting)
                self.assertEqual(sure_papers(turned(one), turned(other), kind), papers)
                self.assertEqual(parting_works(turned(one), turned(other), kind), parting)
        self.assertEqual(len(seen), 4)

    def check_papers(self, random, one, other, kind, papers):
        self.assertTrue(are_plainly(one, other, kind, papers), (one, other, kind, papers))
        self.assertTrue(are_sure_papers(one, other, kind, papers))
        for told in papers:
            self.assertEqual(list(told), sorted(told))
            for pair in told.values():
                for inner in pair:
                    self.assertTrue(isinstance(inner, int) or list(inner) == sorted(inner))
        works = works_for(random, kind)
        self.assertTrue(never_worse(program_part(one, works), program_part(other, works), kind))

    def check_works(self, one, other, kind, parting):
        works, surrounding = parting
        self.assertEqual(list(works), sorted(names_of(one) | names_of(other)))
        if kind == "prices":
            self.assertTrue(all(min(amounts) >= 0 for amounts, _, _ in works.values()))
        mine = worth_in(program_part(one, works), kind, surrounding)
        theirs = worth_in(program_part(other, works), kind, surrounding)
        self.assertIsNotNone(theirs)
        if mine is not None:
            scale = (lambda worth: Fraction(*worth)) if kind == "rates" else (lambda worth: worth)
            self.assertGreater(scale(mine), scale(theirs), (one, other, kind, parting))

    def test_same(self):
        for program, _ in PAIRS[:60]:
            for kind in ("rates", "prices"):
                self.assertIsNone(parting_works(program, program, kind))
                self.assertIsNone(parting_works(("either", [program, "a"]), program, kind))

    def test_rounds(self):
        self.assertIsNone(sure_papers("a", ("again", "a"), "rates"))
        self.assertIsNotNone(sure_papers("a", ("again", "a"), "prices"))
        self.assertIsNotNone(sure_papers(("again", "a"), "a", "rates"))
        papers = sure_papers(("again", ("either", ["a", "b"])), ("again", ("behind", ["b", "a", "b"])), "rates")
        self.assertEqual(papers[1], {(("a", 1), ("b", 2)): (1, {(("a", 1),): 1, (("b", 1),): 2})})
        works, surrounding = parting_works(("again", "a"), ("again", ("behind", ["a", "b"])), "rates")
        self.assertEqual(list(works), ["a", "b"])

    def test_example(self):
        self.assertEqual(sure_papers(TWICE, EACH, "rates"), ({BOTH: ({CUTS: 1, MILLS: 1}, {})}, {}))
        works = {"cut": ((0, 0), 1, 0), "mill": ((1, 0), 1, 0)}
        surrounding = (0, [(0, 0, (0, 0), 1, 0)], (1, 1))
        self.assertEqual(worth_in(program_part(TWICE, works), "rates", surrounding), (0, 1))
        self.assertEqual(worth_in(program_part(EACH, works), "rates", surrounding), (1, 3))
        self.assertIsNotNone(parting_works(EACH, TWICE, "rates"))
        self.assertIsNone(parting_works(TWICE, EACH, "rates"))


class AreSurePapersTest(unittest.TestCase):
    PAPERS = ({BOTH: ({CUTS: 1, MILLS: 1}, {})}, {})

    def told(self, papers, kind="rates", one=TWICE, other=EACH):
        return are_sure_papers(one, other, kind, papers)

    def test_right_ones(self):
        for papers in (self.PAPERS, list(self.PAPERS), ({BOTH: [{MILLS: 5, CUTS: 5}, {}]}, {})):
            self.assertIs(self.told(papers), True)
            self.assertIs(self.told(papers, "prices"), True)
        one, other = ("again", ("either", ["a", "b"])), ("again", ("behind", ["a", "b"]))
        a, b, both = (("a", 1),), (("b", 1),), (("a", 1), ("b", 1))
        for mix, more in (({a: 1}, {b: 1}), ({b: 1}, {a: 1}), ({a: 1, b: 1}, {b: 1, a: 1}), ({a: 3}, {a: 0 + 0, b: 3})):
            right = all(many > 0 for many in more.values())
            for many, rounds in ((1, {a: 1, b: 1}), (7, {b: 7, a: 7})):
                self.assertIs(self.told(({both: (mix, more)}, {both: (many, rounds)}), "rates", one, other), right)
            self.assertIs(self.told(({both: (mix, {})}, {}), "prices", one, other), True)
            self.assertIs(self.told(({both: (mix, more)}, {}), "prices", one, other), False)
        for second in ({}, {both: (2, {a: 1, b: 1})}, {both: (0, {})}, {both: (1, {a: 1, b: True})},
                       {both: (True, {a: 1, b: 1})}, {both: (1, {a: 1, b: 1, both: 1})}, {both: (1, [])}, [],
                       {both: ({a: 1, b: 1}, 1)}, {both: (1, {a: 1, b: 1}), a: (1, {a: 1})}, {both: 1}, {both: (1,)}):
            self.assertIs(self.told(({both: ({a: 1}, {b: 1})}, second), "rates", one, other), False, second)

    def test_wrong_ones(self):
        mixes = [{}, {CUTS: 1}, {CUTS: 2, MILLS: 1}, {CUTS: 1, MILLS: True}, {CUTS: 1, MILLS: 0}, {CUTS: -1, MILLS: -1},
                 {CUTS: 1, MILLS: "1"}, {BOTH: 1}, {CUTS: 1, MILLS: 1, BOTH: 1}, [(CUTS, 1), (MILLS, 1)], None, 1,
                 {(("cut", 2.0 and 2),): 1}, {CUTS: 1, MILLS: 1, "x": 1}, {(("cut", True),): 1, MILLS: 1}]
        for mix in mixes:
            self.assertIs(self.told(({BOTH: (mix, {})}, {})), False, mix)
        for more in (None, [], {CUTS: 1}, {(): 1}, 0):
            self.assertIs(self.told(({BOTH: (self.PAPERS[0][BOTH][0], more)}, {})), False, more)
        right = self.PAPERS[0][BOTH]
        for first in ({}, {BOTH: right, CUTS: right}, {CUTS: right}, {(("cut", True), ("mill", 1)): right}, {BOTH: right[0]},
                      {BOTH: right + ({},)}, [(BOTH, right)], {BOTH: None}, {"both": right}, {1: right}):
            self.assertIs(self.told((first, {})), False, first)
        for second in (None, [], {CUTS: (1, {CUTS: 1})}, 0):
            self.assertIs(self.told((self.PAPERS[0], second)), False)
        for papers in (self.PAPERS + ({},), self.PAPERS[:1], {0: self.PAPERS[0], 1: {}}):
            self.assertIs(self.told(papers), False)

    def test_keys_with_bools(self):
        a = (("a", 1),)
        self.assertTrue(self.told(({a: ({a: 1}, {})}, {}), "rates", "a", "a"))
        self.assertFalse(self.told(({(("a", True),): ({a: 1}, {})}, {}), "rates", "a", "a"))
        self.assertFalse(self.told(({a: ({(("a", True),): 1}, {})}, {}), "rates", "a", "a"))

    def test_any_object(self):
        for thing in objects():
            for kind in ("rates", "prices"):
                self.assertIs(self.told(thing, kind), False)
                self.assertIs(self.told((thing, {}), kind), False)
                self.assertIs(self.told((self.PAPERS[0], thing), kind), thing == {})

    def test_more_and_less(self):
        for one, other in PAIRS[:60]:
            papers = sure_papers(one, other, "rates")
            if papers is not None:
                count = next(iter(papers[0]))
                mix, more = papers[0][count]
                near = [({**papers[0], (("zz", 1),): (mix, more)}, papers[1]), (papers[0], {**papers[1], (("zz", 1),): (1, mix)}),
                        ({key: papers[0][key] for key in papers[0] if key != count}, papers[1])]
                for thing in near:
                    self.assertFalse(self.told(thing, "rates", one, other))
                doubled = ({**papers[0], count: ({key: 2 * mix[key] for key in mix}, {key: 2 * more[key] for key in more})},
                           papers[1])
                self.assertTrue(self.told(doubled, "rates", one, other))
                key = next(iter(mix))
                changed = ({**papers[0], count: ({**mix, key: mix[key] + 1}, more)}, papers[1])
                self.assertIs(self.told(changed, "rates", one, other), are_plainly(one, other, "rates", changed))


class ErrorsTest(unittest.TestCase):
    def calls(self, one, other, kind):
        return (lambda: sure_papers(one, other, kind), lambda: parting_works(one, other, kind),
                lambda: are_sure_papers(one, other, kind, None))

    def test_in_order(self):
        for thing in no_programs():
            for call in self.calls(thing, None, None) + self.calls("a", thing, None) + (lambda: once_counts(thing),):
                with self.assertRaises(BadProgram) as caught:
                    call()
                self.assertIs(caught.exception.thing, thing)
        for call in self.calls(HOLED, None, None) + self.calls("a", HOLED, None) + (lambda: once_counts(HOLED),):
            with self.assertRaises(HasHole):
                call()
        for kind in ("through", "on", "budgets", "rate", None, 1, ["rates"]):
            for call in self.calls("a", "b", kind):
                with self.assertRaises(BadKind) as caught:
                    call()
                self.assertIs(caught.exception.kind, kind)


class SimplexTest(unittest.TestCase):
    def test_shares_or_signs(self):
        random = Random(46)
        for _ in range(1500):
            rows = random.randint(1, 4)
            columns = [[random.randint(-3, 3) for _ in range(rows)] for _ in range(random.randint(0, 7))]
            asked = [random.randint(-4, 4) for _ in range(rows)]
            found, signs = shares_for(columns, asked)
            if found is None:
                self.assertTrue(all(sum(x * y for x, y in zip(signs, column)) <= 0 for column in columns))
                self.assertGreater(sum(x * y for x, y in zip(signs, asked)), 0)
            else:
                shares, many = found
                self.assertIsNone(signs)
                self.assertTrue(many >= 1 and all(share >= 1 for share in shares.values()))
                self.assertEqual(gcd(many, *shares.values()), 1)
                self.assertEqual([sum(shares[k] * columns[k][row] for k in shares) for row in range(rows)],
                                 [many * number for number in asked])


if __name__ == "__main__":
    unittest.main()
