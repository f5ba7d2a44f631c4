"""What the document promises over several of its sections."""

import unittest
from fractions import Fraction
from math import gcd
from random import Random

from anyaround.copies import often
from anyaround.errors import AroundError, NotKept
from anyaround.formparts import is_form, the_part
from anyaround.hadrates import mix_within
from anyaround.holes import filled, keeps, shown
from anyaround.houses import House
from anyaround.kinds import alike, form, never_worse, papers, worse_in, worth_in
from anyaround.legs import is_legs, legs_need, legs_sum
from anyaround.nets import again, behind, either, wired
from anyaround.parts import Part
from anyaround.pieces import pass_of, pieces_of
from anyaround.plans import is_plan, plan_credit, plan_need, plan_rates
from anyaround.programforms import program_form
from anyaround.programparts import names_of, program_part, walk_of
from anyaround.programs import is_run, put_in
from anyaround.putting import put_together, worth_by
from anyaround.rates import best_ring, credit, rate_at
from anyaround.running import chosen, turning
from anyaround.seeing import seen_form
from anyaround.stairs import covers
from anyaround.stocks import least_on, longest, need_of, way_on
from anyaround.sureworks import parting_works, sure_papers
from anyaround.texts import read, write
from anyaround.thrifts import is_thrift_paper, thrift, thrift_paper, thrift_stairs, thrifty
from anyaround.webs import lots

from tests.brute import cost, random_webs, simple_walks
from tests.plain import KINDS, random_surrounding
from tests.plain_programs import clothed_programs, random_programs, runs, works_for
from tests.test_thrifts import cases

ROW = ([(0, 0, 1, 0)], [[(0, 0)]], [[(1, 0)]])
BESIDE = ([], [[(0, 0), (1, 0)]], [[(0, 0), (1, 0)]])
ROUND = ([(0, 0, 0, 0)], [[(0, 0)]], [[(0, 0)]])


class StocksAndRatesTest(unittest.TestCase):
    def test_rates_stocks_and_thrift(self):
        for web, place, prices in cases(131, 100):
            least, rate = least_on(web, place), rate_at(web, place, prices)
            stairs_down = thrift_stairs(web, place, prices)
            self.assertEqual(bool(stairs_down), least is not None)
            for need, cheapest in stairs_down:
                self.assertGreaterEqual(Fraction(*cheapest), Fraction(*rate))
                self.assertIsNone(longest(web, place, need))
            for stock in (0, 3, 11):
                told = thrift(web, place, prices, stock)
                self.assertEqual(told is None, way_on(web, place, stock) is None)
                self.assertEqual(told is None, longest(web, place, stock) is not None)
                if told is None:
                    continue
                # Each plan that can be gone with the stock costs thrift at the least.
                walk, ring = way_on(web, place, stock)
                plan = ([(walk, 1)], ring)
                self.assertTrue(is_plan(web, place, plan) and plan_need(web, place, plan) <= stock)
                paid = [prices[k] * Fraction(*plan_rates(web, place, plan)[k]) for k in (0, 1)]
                self.assertGreaterEqual(sum(paid), Fraction(*told))
                self.assertLessEqual(Fraction(*plan_credit(web, place, plan, prices, rate)),
                                     Fraction(*credit(web, place, prices)))
                self.assertIsNotNone(thrift_paper(web, place, prices, stock, rate))
                paper = thrift_paper(web, place, prices, stock, told)
                self.assertTrue(is_thrift_paper(web, place, prices, stock, told, paper))
                self.assertEqual(paper[0], covers(web, place, stock))

    def test_thrift_by_turns(self):
        # With plenty, what thrifty tells is done by ever longer turns round its rings, begun with stock enough.
        seen = 0
        for web, place, prices in cases(132, 80):
            told = thrifty(web, place, prices, 40)
            if told is None or len(told) < 2:
                continue
            seen += 1
            lot = next(one for one in lots(web) if told[0][0][0][0] in one)
            mix = {}
            for ring, times in told:
                row = [sum(step[2][0] for step in ring), sum(step[2][1] for step in ring), sum(step[3] for step in ring)]
                fits = gcd(*row)
                mix[tuple(number // fits for number in row)] = times * fits
            legs = turning(web, place, (lot, mix), 300)
            amounts, ticks, _ = legs_sum(web, place, legs)
            far = Fraction(cost(prices, amounts), ticks)
            self.assertLessEqual(abs(far - Fraction(*thrift(web, place, prices, 40))), Fraction(1, 2))
        self.assertGreater(seen, 5)

    def test_budgets_by_turns(self):
        for web in random_webs(133, 60):
            for prices in ((1, 1), (3, 1)):
                rate = rate_at(web, 0, prices)
                if rate is not None:
                    row = plan_rates(web, 0, best_plan(web, prices))
                    found = mix_within(web, 0, row)
                    legs = turning(web, 0, found, 4)
                    self.assertTrue(is_legs(web, 0, legs))
                    amounts, ticks, _ = legs_sum(web, 0, legs)
                    bound = Fraction(*rate) * ticks - Fraction(*credit(web, 0, prices))
                    self.assertGreaterEqual(cost(prices, amounts), bound)

    def test_choosers_of_safe_steps(self):
        for web in random_webs(134, 80):
            least = least_on(web, 0)
            if least is not None:
                walk, ring = way_on(web, 0, least)
                far = walk + ring * 20
                ahead = iter(far)
                told, _, fault = chosen(web, 0, least, lambda place, sums: next(ahead), len(far))
                self.assertEqual((told, fault), (far, None))
                self.assertLessEqual(need_of(web, told)[0], least)
                self.assertEqual(legs_need(web, 0, [(walk, 1), (ring, 20)]), need_of(web, told))


def best_plan(web, prices):
    """A plan from 0 that leads to a best ring."""
    ring = best_ring(web, 0, prices)
    walk = next(one for one in simple_walks(web, 0) if (one[-1][1] if one else 0) == ring[0][0])
    return [(walk, 1)], ring


class ProgramsAndNetsTest(unittest.TestCase):
    def test_nets_of_programs(self):
        random = Random(135)
        programs = random_programs(136, 60, deep=2, most=4)
        for p, q in zip(programs[::2], programs[1::2]):
            for kind in KINDS:
                works = works_for(random, kind)
                one, other = program_part(p, works), program_part(q, works)
                forms = [program_form(p, works, kind), program_form(q, works, kind)]
                for program, part, net in ((("behind", [p, q]), behind(one, other), ROW),
                                           (("either", [p, q]), either(one, other), BESIDE),
                                           (("again", p), again(one, 0, 0), ROUND)):
                    told = program_form(program, works, kind)
                    self.assertTrue(alike(program_part(program, works), part, kind))
                    self.assertEqual(told, form(part, kind))
                    self.assertEqual(told, put_together(forms[:1] if net == ROUND else forms, kind, *net))
                    self.assertEqual(form(the_part(told, kind), kind), told)
                    surrounding = random_surrounding(random, kind, 1, 1)
                    self.assertEqual(worth_by(told, kind, surrounding), worth_in(part, kind, surrounding))
                if kind != "budgets":
                    self.assertEqual(program_form(("often", 3, p), works, kind), often(forms[0], kind, 3))
                    self.assertEqual(often(forms[0], kind, 3),
                                     put_together([forms[0], often(forms[0], kind, 2)], kind, *ROW))
                if kind in ("rates", "budgets"):
                    works = works_for(random, "prices")
                    self.assertEqual(seen_form(program_form(p, works, kind), kind, "prices"), program_form(p, works, "prices"))

    def test_holes(self):
        random = Random(137)
        seen = set()
        for program, filler in zip(clothed_programs(138, 100), random_programs(139, 100, deep=2, most=3)):
            whole = put_in(program, filler)
            for kind in KINDS:
                wish = {"rates": (random.randint(-2, 9), random.randint(-2, 9), 2), "through": (2, random.randint(0, 6)),
                        "on": 4, "budgets": (9, 8), "prices": (random.randint(2, 12), random.randint(2, 12))}[kind]
                works = works_for(random, kind)
                context, filling = program_part(program, works), program_part(filler, works)
                self.assertEqual(program_form(program, works, kind), form(context, kind))
                self.assertEqual(form(filled(context, filling), kind), program_form(whole, works, kind))
                kept = self.keeps_plainly(program_form(whole, works, kind), kind, wish)
                self.assertEqual(keeps(context, kind, wish, filling), kept)
                if kind in ("rates", "prices"):
                    self.assertEqual(shown(context, kind, wish, filling) is not None, kept)
                seen.add((kind, kept))
        self.assertEqual(len(seen), 10)

    def keeps_plainly(self, told, kind, wish):
        """Whether a whole with a form of one in door and one out door keeps a wish, for single prices in the tests."""
        if kind == "through":
            return worth_by(told, kind, (0, 0) + wish)
        if kind == "on":
            return told[0][0] is not None and told[0][0] <= wish
        if kind == "budgets":
            return worth_by(told, kind, (0, 0, wish))
        rows = [row for row in told[0][0]] if kind == "rates" else [pair + (1,) for pair in told[0][0]]
        bound = wish if kind == "rates" else wish + (1,)
        prices = [(p, q) for p in range(1, 80) for q in (1, 2, 3, 5, 7, 79)] + [(q, p) for p in range(1, 80) for q in (1, 3, 79)]
        return all(any(cost(one, row) * bound[2] <= cost(one, bound) * row[2] for row in rows) for one in prices)

    def test_pieces_of_runs(self):
        random = Random(140)
        for p, q in zip(random_programs(141, 30, deep=2, most=3), random_programs(142, 30, deep=2, most=3)):
            works = works_for(random, "rates")
            one, other = program_part(p, works), program_part(q, works)
            first = walk_of(p, works, list(min(runs(p, 8))))
            second = walk_of(q, works, list(min(runs(q, 8))))
            walk = pass_of([one, other], *ROW, 0, 0, [(0, 0, 0, first), (1, 0, 0, second)])
            self.assertEqual([step[2:] for step in walk], [step[2:] for step in first + second])
            back = pieces_of([one, other], *ROW, walk)
            names = [name for part, _, _, piece in back for name in names_of([p, q][part], works, piece)]
            self.assertEqual([works[name] for name in names], [step[2:] for step in walk])
            self.assertTrue(is_run(("behind", [p, q]), names))


class HouseOfProgramsTest(unittest.TestCase):
    def test_parts_by_texts(self):
        random = Random(143)
        for p, q in zip(random_programs(144, 25, deep=2, most=3), random_programs(145, 25, deep=2, most=3)):
            works = works_for(random, "prices")
            house = House()
            for name, program in (("p", p), ("q", q)):
                part = program_part(read(write(program)), read(write(works)))
                self.assertEqual(part, program_part(program, works))
                house.put(name, read(write(part)))
            house.put("row", (["p", "q"],) + ROW)
            house.put("or", (["p", "q"],) + BESIDE)
            house.put("more", (["row"],) + ROUND)
            for name, program in (("row", ("behind", [p, q])), ("or", ("either", [p, q])),
                                  ("more", ("again", ("behind", [p, q])))):
                for kind in KINDS:
                    told = program_form(program, works, kind)
                    self.assertEqual(form(house.part(name), kind), told)
                    self.assertTrue(house.holds(("under", "or", "p", kind)))
                    self.assertTrue(house.holds(("under", "more", "row", kind)))
                    self.assertTrue(is_form(told, kind))
            for kind in KINDS:
                house.watch(("under", "or", "q", kind))
            again_or = program_part(("either", [p, p]), works)
            self.assertEqual(house.broken_by("p", again_or), [])
            for kind in KINDS:
                self.assertEqual(house.turned_by("p", again_or, kind), {})

    def test_sure_works_as_promises(self):
        random = Random(146)
        seen = set()
        for p, q in zip(random_programs(147, 60), random_programs(148, 60)):
            for kind in ("rates", "prices"):
                told = sure_papers(p, q, kind)
                works, surrounding = (works_for(random, kind), None) if told else parting_works(p, q, kind)
                house = House()
                house.put("p", program_part(p, works))
                house.put("q", program_part(q, works))
                promise = ("under", "p", "q", kind)
                self.assertEqual(house.holds(promise), told is not None)
                self.assertEqual(house.shown(promise), (True, papers(house.part("p"), house.part("q"), kind)) if told
                                 else (False, worse_in(house.part("p"), house.part("q"), kind)))
                if told is None:
                    with self.assertRaises(NotKept):
                        house.watch(promise)
                    least = house.shown(("worth", "q", kind, surrounding, None))[1]
                    self.assertFalse(house.holds(("worth", "p", kind, surrounding, least)))
                seen.add(told is None)
        self.assertEqual(len(seen), 2)

    def test_what_is_built_around(self):
        # What shows a change of a part shows it of nets as well; what is never worse breaks no worth.
        random = Random(149)
        for _ in range(40):
            kind = random.choice(KINDS)
            works = works_for(random, kind)
            p, q, r = random_programs(random.random(), 3, deep=2, most=3)
            house = House()
            house.put("a", program_part(p, works))
            house.put("b", program_part(q, works))
            house.put("c", (["a", "b", "a"], [(0, 0, 1, 0), (1, 0, 2, 0), (1, 0, 0, 0)], [[(0, 0)], [(1, 0), (2, 0)]],
                            [[(2, 0)], [(0, 0)]]))
            promises = []
            for _ in range(6):
                name = random.choice("abc")
                part = house.part(name)
                surrounding = random_surrounding(random, kind, len(part.ins()), len(part.outs()), 3)
                promise = ("worth", name, kind, surrounding, worth_in(part, kind, surrounding))
                if not any(promise == one for one in promises):
                    house.watch(promise)
                    promises.append(promise)
            better = program_part(("either", [p, r]), works)
            self.assertTrue(never_worse(better, house.part("a"), kind))
            self.assertEqual(house.broken_by("a", better), [])
            self.assertTrue(set(house.turned_by("a", better, kind).values()) <= {"better"})
            house.put("a", better)
            self.assertTrue(all(house.holds(promise) for promise in promises))
            behind_all = wired([better, program_part(q, works), better], *house.thing("c")[1:])
            self.assertEqual(house.part("c"), behind_all)
            self.assertEqual(house.undo(), "put")

    def test_errors_are_of_one_base(self):
        for call in (lambda: read(3), lambda: write(3), lambda: House().take("a"), lambda: program_part(3, 4)):
            with self.assertRaises(AroundError):
                call()
        self.assertIsInstance(House().twin(), House)
        self.assertFalse(House() == Part(2, [], [0], [1]))


if __name__ == "__main__":
    unittest.main()
