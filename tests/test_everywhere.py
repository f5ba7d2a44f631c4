"""What holds of all functions: places and names, lists and tuples, nothing changed, all new and the same each time."""

import copy
import inspect
import unittest

from anyaround import (copies, formparts, fronts, hadrates, holes, kinds, learning, longchains, nets, parts, passes, pieces,
                       putting, rates, rows, slices, stairs, stocks, webs)
from anyaround.parts import Part
from anyaround.webs import Web

from tests.brute import P_STEPS, V_STEPS, W_STEPS, part_p, web_v, web_w

A, B, C, D, E = W_STEPS
WIDE = Part(4, P_STEPS + [(2, 3, (1, 2), 3, -1)], [0, 1], [2, 3])
HEAPED = Web(1, [(0, 0, amounts, 1, 0) for amounts in [(0, 5), (5, 0), (3, 3)]])
CALLS = [
    (webs.Web, (3, W_STEPS)), (webs.is_walk, (web_w(), [A, C, D])), (webs.is_ring, (web_w(), [A, B])),
    (webs.sum_of, (web_w(), [A, C, D])), (webs.reached, (web_w(), 0)), (webs.lots, (web_w(),)),
    (rates.rate_at, (web_w(), 0, (4, 2))), (rates.best_ring, (web_w(), 0, (4, 2))),
    (rates.heights, (web_w(), 0, (1, 1), (4, 2))), (rates.ring_below, (web_w(), 0, (1, 1), (10, 4))),
    (rates.is_heights, (web_w(), 0, (1, 1), (4, 2), {0: 0, 1: 0, 2: -2})), (rates.credit, (web_w(), 0, (1, 1))),
    (rows.rows_of, (web_w(), 0)), (rows.best_rows, (web_w(), 0)), (rows.bends, (web_w(), 0)),
    (rows.prices_for, (web_w(), 0, (1, 1, 1))), (rows.mix_under, (HEAPED, 0, (3, 3, 1))),
    (hadrates.mix_within, (web_w(), 0, ((2, 4), (2, 1)))), (hadrates.prices_over, (web_w(), 0, ((2, 4), (1, 1)))),
    (parts.Part, (3, P_STEPS, [0], [2])), (parts.is_pass, (part_p(), 0, 0, [P_STEPS[3]])),
    (parts.closed, (WIDE, [(1, 0, (0, 0), 1, 0), (0, 1, (2, 3), 4, 5)])), (passes.corners, (part_p(), 0)),
    (stocks.need_of, (web_v(), [V_STEPS[0], V_STEPS[3]])), (stocks.least_on, (web_v(), 0)),
    (stocks.least_ons, (web_v(),)), (stocks.way_on, (web_v(), 0, 7)), (stocks.is_safe, (web_v(), {
        0: 5, 1: None, 2: None, 3: 0})), (stocks.longest, (web_v(), 0, 4)), (stocks.long_walk, (web_v(), 0, 4)),
    (stairs.most_out, (web_v(), 0, 2, 4)), (stairs.stairs, (web_v(), 0, 2)),
    (stairs.way_out, (web_v(), 0, 2, 5, 9)), (stairs.covers, (web_v(), 0, 5)),
    (stairs.is_cover, (web_v(), 0, 4, {0: 4, 1: 1, 2: 6}))]
MORE = Part(3, P_STEPS + [(0, 2, (1, 3), 2, 0)], [0], [2])
WALKED = Part(4, V_STEPS, [0], [2])
LESS = Part(4, V_STEPS[1:], [0], [2])
STEPPED = Part(2, [(0, 1, (1, 0), 1, 0)], [0], [1])
HOLE = Part(4, [(0, 0, (4, 0), 1, -1), (0, 1, (1, 0), 1, 1), (2, 1, (0, 2), 1, -2), (2, 3, (1, 1), 1, 0)], [0, 2], [3, 1])
FILLER = Part(2, [(0, 1, (2, 0), 1, 2)], [0], [1])
COSTLY = Part(2, [(0, 1, (0, 1), 1, 0)], [0], [1])
NET = ([(0, 0, 1, 0)], [[(0, 0)]], [[(1, 0)]])
BARS = {0: [(0, 0)], 1: [(1, 1)], 2: [(0, 4), (2, 1)]}
RATES_FORM = [([(2, 0, 1)], [[(0, 4, 1), (2, 1, 2)]])]
STAIRS_FORM = [[[(1, -1), (4, 1), (9, None)]]]
SHOWN = {("again", (2, 0, 1), (0, 2, 1)): 3}
CALLS += [
    (kinds.worth_in, (part_p(), "rates", (0, [(0, 0, (0, 0), 1, 0)], (4, 2)))),
    (kinds.worth_in, (WALKED, "on", (0, [(0, 0, (0, 0), 1, 2)], [(0, 9)], 1))),
    (kinds.worth_in, (part_p(), "budgets", (0, 0, (None, 1)))),
    (kinds.form, (part_p(), "rates")), (kinds.form, (WALKED, "through")), (kinds.form, (WALKED, "on")),
    (kinds.form, (MORE, "budgets")), (kinds.form, (MORE, "prices")), (kinds.alike, (part_p(), MORE, "prices")),
    (kinds.apart, (part_p(), MORE, "rates")), (kinds.apart, (part_p(), MORE, "budgets")),
    (kinds.never_worse, (WALKED, LESS, "on")), (kinds.worse_in, (LESS, WALKED, "on")),
    (kinds.worse_in, (part_p(), MORE, "rates")), (kinds.papers, (MORE, part_p(), "rates")),
    (kinds.papers, (WALKED, LESS, "through")), (kinds.papers, (MORE, part_p(), "budgets")),
    (kinds.papers, (part_p(), MORE, "prices")),
    (kinds.are_papers, (part_p(), MORE, "prices", [[[{(0, 4): 1}, {(2, 1): 2}]]])),
    (fronts.pass_within, (part_p(), 0, 0, (2, None))), (fronts.bars, (part_p(), 0, 0, (1, 3))),
    (fronts.is_bars, (part_p(), 0, 0, (1, 3), BARS)), (fronts.pass_upto, (part_p(), 0, 0, (1, 1), 3)),
    (fronts.heights_over, (part_p(), 0, 0, (1, 1), 2)), (nets.wired, ([STEPPED, part_p()], *NET)),
    (nets.behind, (STEPPED, part_p())), (nets.either, (STEPPED, part_p())), (nets.again, (part_p(), 0, 0)),
    (pieces.pass_of, ([STEPPED, part_p()], *NET, 0, 0, [(0, 0, 0, [(0, 1, (1, 0), 1, 0)]), (1, 0, 0, [P_STEPS[3]])])),
    (pieces.pieces_of, ([STEPPED, STEPPED], *NET, [(4, 2, (1, 0), 1, 0), (2, 5, (1, 0), 1, 0)])),
    (formparts.is_form, (RATES_FORM, "rates")), (formparts.the_part, (RATES_FORM, "rates")),
    (putting.put_together, ([RATES_FORM, RATES_FORM], "rates", *NET)),
    (putting.worth_by, (STAIRS_FORM, "through", (0, 0, 4, 5))), (copies.often, (RATES_FORM, "rates", 3)),
    (copies.often, (STAIRS_FORM, "through", 3)), (copies.often_out, (STAIRS_FORM, 5, 4)),
    (copies.how_often, (STAIRS_FORM, 3)), (longchains.often_costs, (RATES_FORM, 3, (1, 1), (2, 2))),
    (longchains.often_worth, (RATES_FORM, 2, (0, [(0, 0, (0, 0), 1, 0)], (1, 1)))), (holes.filled, (HOLE, FILLER)),
    (holes.keeps, (HOLE, "through", (1, 4), FILLER)), (holes.asked, (HOLE, "rates", (1, 1, 1))),
    (holes.asked, (HOLE, "budgets", (5, 4))), (holes.enough, (HOLE, "prices", (3, 2), (1, 1))),
    (holes.shown, (HOLE, "rates", (1, 1, 1), FILLER)), (holes.short_at, (HOLE, "rates", (1, 1, 1), COSTLY)),
    (holes.is_shown, (HOLE, "rates", (1, 1, 1), FILLER, SHOWN)),
    (learning.learned_stairs, (lambda stock, wanted: wanted <= stock - 2, 8, 3)),
    (slices.slice_of, (RATES_FORM, 0, 0, (1, 1))), (slices.learned_slice, (lambda way: (2, 1), 4, 9))]


def turned(thing):
    """The same with lists for tuples and tuples for lists, webs and parts made anew."""
    if isinstance(thing, list):
        return tuple(turned(one) for one in thing)
    if isinstance(thing, tuple):
        return [turned(one) for one in thing]
    if isinstance(thing, dict):
        return {key: turned(thing[key]) for key in reversed(list(thing))}
    if isinstance(thing, Web):
        return Web(thing.places(), turned(thing.steps()[::-1]))
    if isinstance(thing, Part):
        return Part(thing.web().places(), turned(thing.web().steps()[::-1]), turned(thing.ins()), turned(thing.outs()))
    return thing


def spoil(thing):
    """Change all lists and dicts within a told thing."""
    if isinstance(thing, (list, tuple)):
        for one in thing:
            spoil(one)
    if isinstance(thing, dict):
        for one in thing.values():
            spoil(one)
        thing["spoilt"] = 1
    if isinstance(thing, list):
        thing.append("spoilt")


def same(one, other):
    """Whether two told things are equal and of the same kinds within, dicts in the same order."""
    if type(one) is not type(other):
        return False
    if isinstance(one, (list, tuple)):
        return len(one) == len(other) and all(same(x, y) for x, y in zip(one, other))
    if isinstance(one, dict):
        return same(list(one.items()), list(other.items()))
    return one == other


class EverywhereTest(unittest.TestCase):
    def test_all_are_here(self):
        from tests.test_language import INTERFACE
        names = {row.split("(")[0] for rows_ in INTERFACE.values() for row in rows_}
        self.assertEqual({function.__name__ for function, _ in CALLS}, names)

    def test_told_at_all(self):
        for function, passed in CALLS:
            self.assertIsNotNone(function(*passed), function)

    def test_by_name(self):
        for function, passed in CALLS:
            names = list(inspect.signature(function).parameters)
            self.assertTrue(same(function(**dict(zip(names, passed))), function(*passed)), function)

    def test_lists_and_tuples(self):
        for function, passed in CALLS:
            self.assertTrue(same(function(*[turned(one) for one in passed]), function(*passed)), function)

    def test_nothing_is_changed(self):
        for function, passed in CALLS:
            for things in (passed, [turned(one) for one in passed]):
                kept = copy.deepcopy(things)
                function(*things)
                self.assertTrue(same(list(things), list(kept)), function)

    def test_new_each_time(self):
        for function, passed in CALLS:
            first = function(*passed)
            kept = copy.deepcopy(first)
            spoil(first)
            self.assertTrue(same(function(*passed), kept), function)

    def test_bools_of_tests(self):
        for function, passed in CALLS:
            if function.__name__.startswith("is_"):
                self.assertIs(function(*passed), True)

    def test_later_changes(self):
        walk = [list(A), list(B)]
        told = rates.best_ring(web_w(), 0, (1, 1))
        self.assertTrue(webs.is_walk(web_w(), walk))
        steps = [list(step) for step in W_STEPS]
        web = Web(3, steps)
        ring = rates.best_ring(web, 0, (1, 1))
        ring.clear()
        for step in steps:
            step[1] = 0
        self.assertEqual(rates.best_ring(web, 0, (1, 1)), told)


if __name__ == "__main__":
    unittest.main()
