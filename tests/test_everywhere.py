"""What holds of all functions: places and names, lists and tuples, nothing changed, all new and the same each time."""

import copy
import inspect
import unittest

from anyaround import (copies, formparts, fronts, hadrates, holes, houses, kinds, learning, legs, longchains, nets, parts,
                       passes, pieces, plans, programforms, programparts, programs, putting, rates, rows, running, seeing,
                       slices, stairs, stocks, sureworks, texts, thrifts, webs)
from anyaround.errors import AroundError
from anyaround.parts import Part
from anyaround.webs import Web

from tests.brute import P_STEPS, V_STEPS, W_STEPS, part_p, web_v, web_w

A, B, C, D, E = W_STEPS
WIDE = Part(4, P_STEPS + [(2, 3, (1, 2), 3, -1)], [0, 1], [2, 3])
HEAPED = Web(1, [(0, 0, amounts, 1, 0) for amounts in [(0, 5), (5, 0), (3, 3)]])
CALLS = [
    (webs.Web, (3, W_STEPS)), (webs.is_walk, (web_w(), [A, C, D])), (webs.is_ring, (web_w(), [A, B])),
    (webs.sum_of, (web_w(), [A, C, D])), (webs.reached, (web_w(), 0)), (webs.lots, (web_w(),)),
    (rates.rate_at, (web_w(), 0, (4, 2))), (rates.best_ring, (web_w(), 0, (4, 2))),
    (rates.heights, (web_w(), 0, (1, 1), (4, 2))), (rates.ring_below, (web_w(), 0, (1, 1), (10, 4))),
    (rates.is_heights, (web_w(), 0, (1, 1), (4, 2), {0: 0, 1: 0, 2: -2})), (rates.credit, (web_w(), 0, (1, 1))),
    (rows.rows_of, (web_w(), 0)), (rows.best_rows, (web_w(), 0)), (rows.bends, (web_w(), 0)),
    (rows.prices_for, (web_w(), 0, (1, 1, 1))), (rows.mix_under, (HEAPED, 0, (3, 3, 1))),
    (hadrates.mix_within, (web_w(), 0, ((2, 4), (2, 1)))), (hadrates.prices_over, (web_w(), 0, ((2, 4), (1, 1)))),
    (parts.Part, (3, P_STEPS, [0], [2])), (parts.is_pass, (part_p(), 0, 0, [P_STEPS[3]])),
    (parts.closed, (WIDE, [(1, 0, (0, 0), 1, 0), (0, 1, (2, 3), 4, 5)])), (passes.corners, (part_p(), 0)),
    (stocks.need_of, (web_v(), [V_STEPS[0], V_STEPS[3]])), (stocks.least_on, (web_v(), 0)),
    (stocks.least_ons, (web_v(),)), (stocks.way_on, (web_v(), 0, 7)), (stocks.is_safe, (web_v(), {
        0: 5, 1: None, 2: None, 3: 0})), (stocks.longest, (web_v(), 0, 4)), (stocks.long_walk, (web_v(), 0, 4)),
    (stairs.most_out, (web_v(), 0, 2, 4)), (stairs.stairs, (web_v(), 0, 2)),
    (stairs.way_out, (web_v(), 0, 2, 5, 9)), (stairs.covers, (web_v(), 0, 5)),
    (stairs.is_cover, (web_v(), 0, 4, {0: 4, 1: 1, 2: 6}))]
MORE = Part(3, P_STEPS + [(0, 2, (1, 3), 2, 0)], [0], [2])
WALKED = Part(4, V_STEPS, [0], [2])
LESS = Part(4, V_STEPS[1:], [0], [2])
STEPPED = Part(2, [(0, 1, (1, 0), 1, 0)], [0], [1])
HOLE = Part(4, [(0, 0, (4, 0), 1, -1), (0, 1, (1, 0), 1, 1), (2, 1, (0, 2), 1, -2), (2, 3, (1, 1), 1, 0)], [0, 2], [3, 1])
FILLER = Part(2, [(0, 1, (2, 0), 1, 2)], [0], [1])
COSTLY = Part(2, [(0, 1, (0, 1), 1, 0)], [0], [1])
NET = ([(0, 0, 1, 0)], [[(0, 0)]], [[(1, 0)]])
BARS = {0: [(0, 0)], 1: [(1, 1)], 2: [(0, 4), (2, 1)]}
RATES_FORM = [([(2, 0, 1)], [[(0, 4, 1), (2, 1, 2)]])]
STAIRS_FORM = [[[(1, -1), (4, 1), (9, None)]]]
SHOWN = {("again", (2, 0, 1), (0, 2, 1)): 3}
CALLS += [
    (kinds.worth_in, (part_p(), "rates", (0, [(0, 0, (0, 0), 1, 0)], (4, 2)))),
    (kinds.worth_in, (WALKED, "on", (0, [(0, 0, (0, 0), 1, 2)], [(0, 9)], 1))),
    (kinds.worth_in, (part_p(), "budgets", (0, 0, (None, 1)))),
    (kinds.form, (part_p(), "rates")), (kinds.form, (WALKED, "through")), (kinds.form, (WALKED, "on")),
    (kinds.form, (MORE, "budgets")), (kinds.form, (MORE, "prices")), (kinds.alike, (part_p(), MORE, "prices")),
    (kinds.apart, (part_p(), MORE, "rates")), (kinds.apart, (part_p(), MORE, "budgets")),
    (kinds.never_worse, (WALKED, LESS, "on")), (kinds.worse_in, (LESS, WALKED, "on")),
    (kinds.worse_in, (part_p(), MORE, "rates")), (kinds.papers, (MORE, part_p(), "rates")),
    (kinds.papers, (WALKED, LESS, "through")), (kinds.papers, (MORE, part_p(), "budgets")),
    (kinds.papers, (part_p(), MORE, "prices")),
    (kinds.are_papers, (part_p(), MORE, "prices", [[[{(0, 4): 1}, {(2, 1): 2}]]])),
    (fronts.pass_within, (part_p(), 0, 0, (2, None))), (fronts.bars, (part_p(), 0, 0, (1, 3))),
    (fronts.is_bars, (part_p(), 0, 0, (1, 3), BARS)), (fronts.pass_upto, (part_p(), 0, 0, (1, 1), 3)),
    (fronts.heights_over, (part_p(), 0, 0, (1, 1), 2)), (nets.wired, ([STEPPED, part_p()], *NET)),
    (nets.behind, (STEPPED, part_p())), (nets.either, (STEPPED, part_p())), (nets.again, (part_p(), 0, 0)),
    (pieces.pass_of, ([STEPPED, part_p()], *NET, 0, 0, [(0, 0, 0, [(0, 1, (1, 0), 1, 0)]), (1, 0, 0, [P_STEPS[3]])])),
    (pieces.pieces_of, ([STEPPED, STEPPED], *NET, [(4, 2, (1, 0), 1, 0), (2, 5, (1, 0), 1, 0)])),
    (formparts.is_form, (RATES_FORM, "rates")), (formparts.the_part, (RATES_FORM, "rates")),
    (putting.put_together, ([RATES_FORM, RATES_FORM], "rates", *NET)),
    (putting.worth_by, (STAIRS_FORM, "through", (0, 0, 4, 5))), (copies.often, (RATES_FORM, "rates", 3)),
    (copies.often, (STAIRS_FORM, "through", 3)), (copies.often_out, (STAIRS_FORM, 5, 4)),
    (copies.how_often, (STAIRS_FORM, 3)), (longchains.often_costs, (RATES_FORM, 3, (1, 1), (2, 2))),
    (longchains.often_worth, (RATES_FORM, 2, (0, [(0, 0, (0, 0), 1, 0)], (1, 1)))), (holes.filled, (HOLE, FILLER)),
    (holes.keeps, (HOLE, "through", (1, 4), FILLER)), (holes.asked, (HOLE, "rates", (1, 1, 1))),
    (holes.asked, (HOLE, "budgets", (5, 4))), (holes.enough, (HOLE, "prices", (3, 2), (1, 1))),
    (holes.shown, (HOLE, "rates", (1, 1, 1), FILLER)), (holes.short_at, (HOLE, "rates", (1, 1, 1), COSTLY)),
    (holes.is_shown, (HOLE, "rates", (1, 1, 1), FILLER, SHOWN)),
    (learning.learned_stairs, (lambda stock, wanted: wanted <= stock - 2, 8, 3)),
    (slices.slice_of, (RATES_FORM, 0, 0, (1, 1))), (slices.learned_slice, (lambda way: (2, 1), 4, 9))]
WORKS = {"buy": ((1, 1), 1, 2), "cut": ((2, 0), 1, -1), "mill": ((0, 3), 2, 0)}
BUILT = ("behind", ["buy", ("again", ("either", ["cut", "mill"]))])
HOLED = ("behind", ["buy", ("hole",), "cut"])
TWICE = ("either", [("often", 2, "cut"), ("often", 2, "mill")])
EACH = ("behind", ["cut", "mill"])
SURE = ({(("cut", 1), ("mill", 1)): ({(("mill", 2),): 3, (("cut", 2),): 3}, {})}, {})
BOUGHT = (0, 2, (1, 1), 1, 2)
LEGS = [([A], 1), ([C], 4), ([], 2), ([B, A], 2)]
PLAN = (LEGS, [B, A])
FOUND = ([0, 1], {(1, 1, 1): 2, (0, 3, 1): 1})
RING_WEB = Web(3, [(0, 1, (5, 0), 1, 0), (1, 0, (5, 0), 1, 0), (1, 1, (1, 0), 1, -1), (0, 2, (0, 0), 1, -3),
                   (2, 2, (6, 0), 1, 2), (2, 0, (0, 0), 1, 0)])
PAPER = ({0: None, 1: None, 2: None}, {}, {0: (1, 12, {0: 0, 1: 0, 2: 18})})
LOOPED = Part(2, [(0, 1, (1, 0), 1, 0), (0, 0, (0, 0), 1, 0)], [0], [1])


def odd_and_even(place, sums):
    """A chooser that answers lists."""
    return [list(A), list(B), list(C)][place + (sums[1] % 3 == 1)]


CALLS += [
    (programs.is_program, (BUILT,)), (programs.is_run, (BUILT, ["buy", "mill", "cut"])),
    (programs.is_beginning, (HOLED, ["buy", None])), (programs.run_apart, (BUILT, HOLED)),
    (programs.put_in, (HOLED, TWICE)), (programparts.program_part, (HOLED, WORKS)),
    (programparts.walk_of, (BUILT, WORKS, ["buy", "mill"])), (programparts.names_of, (BUILT, WORKS, [BOUGHT])),
    (programforms.program_form, (("often", 10 ** 30, BUILT), WORKS, "rates")),
    (programforms.program_form, (HOLED, WORKS, "on")), (sureworks.once_counts, (BUILT,)),
    (sureworks.sure_papers, (TWICE, EACH, "rates")), (sureworks.parting_works, (EACH, TWICE, "rates")),
    (sureworks.are_sure_papers, (TWICE, EACH, "rates", SURE)), (legs.is_legs, (web_w(), 0, LEGS)),
    (legs.legs_sum, (web_w(), 0, LEGS)), (legs.legs_need, (web_w(), 0, LEGS)), (legs.legs_step, (web_w(), 0, LEGS, 3)),
    (legs.first_below, (web_w(), 0, LEGS, 2)), (plans.is_plan, (web_w(), 0, PLAN)),
    (plans.plan_sum, (web_w(), 0, PLAN, 33)), (plans.plan_rates, (web_w(), 0, PLAN)),
    (plans.plan_need, (web_w(), 0, PLAN)), (plans.plan_credit, (web_w(), 0, PLAN, (1, 2), (4, 2))),
    (plans.first_short, (web_w(), 0, PLAN, (1, 1), (10, 4), (20, 2))), (running.turning, (web_w(), 0, FOUND, 2)),
    (running.chosen, (web_w(), 0, 9, odd_and_even, 8)), (texts.write, (BUILT,)), (texts.write, (WORKS,)),
    (texts.write, (part_p(),)), (texts.read, (texts.write(BUILT),)), (texts.read, (texts.write(WORKS),)),
    (houses.House, ()), (seeing.sees, ("rates", "prices")), (seeing.pair_unseen, ("rates", "on")),
    (seeing.is_unseen, ("through", "on", (STEPPED, LOOPED))), (seeing.seen_form, (RATES_FORM, "rates", "prices")),
    (thrifts.thrift, (RING_WEB, 0, (2, 2), 3)), (thrifts.thrifty, (RING_WEB, 0, (1, 1), 3)),
    (thrifts.thrift_stairs, (RING_WEB, 0, (1, 1))), (thrifts.thrift_paper, (RING_WEB, 0, (1, 1), 3, (36, 14))),
    (thrifts.is_thrift_paper, (RING_WEB, 0, (1, 1), 3, (36, 14), PAPER))]
PROMISE = ("worth", "line", "rates", (0, [(0, 0, (1, 0), 2, 0)], (2, 2)), (9, 2))
NET_OF_NAMES = (["mill", "mill"], [(0, 0, 1, 0)], [[(0, 0)]], [[(1, 0)]])
# What is asked of a house; each is asked of a new one.
ASKED = [("put", ("new", NET_OF_NAMES)), ("take", ("free",)), ("part", ("line",)), ("thing", ("line",)), ("names", ()),
         ("users", ("mill",)), ("is_promise", (PROMISE,)), ("holds", (PROMISE,)), ("shown", (("under", "mill", "line", "rates"),)),
         ("shown", (("alike", "line", "line", "through"),)), ("watch", (("alike", "mill", "mill", "on"),)),
         ("unwatch", (PROMISE,)), ("watched", ()), ("broken_by", ("mill", STEPPED)), ("turned_by", ("mill", STEPPED, "on")),
         ("undo", ()), ("redo", ()), ("done", ()), ("twin", ()), ("trial", (lambda house: house.names(),))]


def house_asked():
    """A house in which there is something to be asked."""
    house = houses.House()
    for name, thing in (("mill", part_p()), ("free", MORE), ("line", NET_OF_NAMES), ("last", STEPPED)):
        house.put(name, thing)
    house.watch(PROMISE)
    house.put("last", part_p())
    house.put("last", STEPPED)
    house.undo()
    return house


def turned(thing):
    """The same with lists for tuples and tuples for lists, webs and parts made anew."""
    if isinstance(thing, list):
        return tuple(turned(one) for one in thing)
    if isinstance(thing, tuple):
        return [turned(one) for one in thing]
    if isinstance(thing, dict):
        return {key: turned(thing[key]) for key in reversed(list(thing))}
    if isinstance(thing, Web):
        return Web(thing.places(), turned(thing.steps()[::-1]))
    if isinstance(thing, Part):
        return Part(thing.web().places(), turned(thing.web().steps()[::-1]), turned(thing.ins()), turned(thing.outs()))
    return thing


def spoil(thing):
    """Change all lists and dicts within a told thing."""
    if isinstance(thing, (list, tuple)):
        for one in thing:
            spoil(one)
    if isinstance(thing, dict):
        for one in thing.values():
            spoil(one)
        thing["spoilt"] = 1
    if isinstance(thing, list):
        thing.append("spoilt")


def same(one, other):
    """Whether two told things are equal and of the same kinds within, dicts in the same order."""
    if type(one) is not type(other):
        return False
    if isinstance(one, (list, tuple)):
        return len(one) == len(other) and all(same(x, y) for x, y in zip(one, other))
    if isinstance(one, dict):
        return same(list(one.items()), list(other.items()))
    return one == other


class EverywhereTest(unittest.TestCase):
    def test_all_are_here(self):
        from tests.test_language import INTERFACE
        names = {row.split("(")[0] for rows_ in INTERFACE.values() for row in rows_}
        self.assertEqual({function.__name__ for function, _ in CALLS}, names)

    def test_told_at_all(self):
        for function, passed in CALLS:
            self.assertIsNotNone(function(*passed), function)

    def test_all_methods_are_here(self):
        from tests.test_language import CLASSES
        self.assertEqual({name for name, _ in ASKED} | {"__eq__"}, {row.split("(")[0] for row in CLASSES["House"]})

    def test_houses_by_name_and_with_lists(self):
        for name, passed in ASKED:
            told, house = [], house_asked()
            words = list(inspect.signature(getattr(house, name)).parameters)
            for things, by_name in ((passed, False), (passed, True), ([turned(one) for one in passed], False)):
                house = house_asked()
                kept = copy.deepcopy(things)
                if by_name:
                    named = list(zip(words, things))
                    told.append(getattr(house, name)(**dict(reversed(named))))
                else:
                    told.append(getattr(house, name)(*things))
                self.assertTrue(same(list(things), list(kept)), name)
                told[-1] = (told[-1], house.names(), house.watched(), house.done(), house)
            self.assertTrue(same(told[0], told[1]), name)
            self.assertTrue(same(told[0], told[2]), name)

    def test_houses_tell_new_things(self):
        for name, passed in ASKED:
            house = house_asked()
            if name not in ("put", "take", "watch", "unwatch", "undo", "redo", "twin"):
                first = getattr(house, name)(*passed)
                kept = copy.deepcopy(first)
                spoil(first)
                self.assertTrue(same(getattr(house, name)(*passed), kept), name)
                self.assertEqual(house, house_asked())

    def test_houses_tell_nothing(self):
        for name, passed in ASKED:
            if name in ("put", "take", "watch", "unwatch"):
                self.assertIsNone(getattr(house_asked(), name)(*passed))

    def test_no_integers(self):
        # Nothing else is raised of bools for numbers, and each error keeps the very object.
        web = web_w()
        for thing in (True, False):
            for call in (lambda: legs.legs_step(web, 0, LEGS, thing), lambda: plans.plan_sum(web, 0, PLAN, thing),
                         lambda: running.turning(web, 0, FOUND, thing), lambda: running.chosen(web, 0, 1, len, thing),
                         lambda: thrifts.thrift(web, 0, (1, 1), thing), lambda: thrifts.thrift(web, thing, (1, 1), 0)):
                with self.assertRaises(AroundError) as caught:
                    call()
                self.assertEqual([value for value in vars(caught.exception).values()], [thing])
                self.assertIs(list(vars(caught.exception).values())[0], thing)

    def test_by_name(self):
        for function, passed in CALLS:
            names = list(inspect.signature(function).parameters)
            named = list(zip(names, passed))
            self.assertTrue(same(function(**dict(named)), function(*passed)), function)
            self.assertTrue(same(function(**dict(reversed(named))), function(*passed)), function)

    def test_lists_and_tuples(self):
        for function, passed in CALLS:
            self.assertTrue(same(function(*[turned(one) for one in passed]), function(*passed)), function)

    def test_nothing_is_changed(self):
        for function, passed in CALLS:
            for things in (passed, [turned(one) for one in passed]):
                kept = copy.deepcopy(things)
                function(*things)
                self.assertTrue(same(list(things), list(kept)), function)

    def test_new_each_time(self):
        for function, passed in CALLS:
            first = function(*passed)
            kept = copy.deepcopy(first)
            spoil(first)
            self.assertTrue(same(function(*passed), kept), function)

    def test_bools_of_tests(self):
        for function, passed in CALLS:
            if function.__name__.startswith(("is_", "are_")):
                self.assertIs(function(*passed), True)

    def test_later_changes(self):
        walk = [list(A), list(B)]
        told = rates.best_ring(web_w(), 0, (1, 1))
        self.assertTrue(webs.is_walk(web_w(), walk))
        steps = [list(step) for step in W_STEPS]
        web = Web(3, steps)
        ring = rates.best_ring(web, 0, (1, 1))
        ring.clear()
        for step in steps:
            step[1] = 0
        self.assertEqual(rates.best_ring(web, 0, (1, 1)), told)


if __name__ == "__main__":
    unittest.main()
