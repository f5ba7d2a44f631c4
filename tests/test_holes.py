import unittest
from fractions import Fraction
from random import Random

from anyaround.errors import BadContext, BadFiller, BadKind, BadRow, BadWish, HasBelow
from anyaround.holes import asked, enough, filled, is_shown, keeps, short_at, shown
from anyaround.kinds import form, never_worse, worth_in
from anyaround.nets import wired
from anyaround.parts import Part

from tests.brute import cost, objects
from tests.plain import KINDS, for_kind, passes, random_part
from tests.test_everywhere import same, turned
from tests.test_kinds import changed
from tests.test_stairs import by_stairs

C_STEPS = [(0, 0, (4, 0), 1, -1), (0, 1, (1, 0), 1, 1), (2, 1, (0, 2), 1, -2), (2, 3, (1, 1), 1, 0)]
C = Part(4, C_STEPS, [0, 2], [3, 1])
WISHES = {"rates": (1, 1, 1), "through": (1, 4), "on": 1, "budgets": (5, 4), "prices": (3, 2)}


def with_row(kind, row):
    """A filler that has no ring and one pass, with a row; with any stock for a gain None."""
    if kind in ("through", "on"):
        need, gain = row
        last = [(2, 1, (0, 0), 1, 0), (2, 2, (0, 0), 1, 1)] if gain is None else [(2, 1, (0, 0), 1, need + gain)]
        return Part(3, [(0, 2, (0, 0), 1, -need)] + last, [0], [1])
    return Part(2, [(0, 1, tuple(row[:2]), row[2] if kind == "rates" else 1, 0)], [0], [1])


EMPTY = Part(2, [], [0], [1])
ONE_PASS = with_row("prices", (2, 0))


def random_context(random, kind):
    return random_part(random, 2, 2, **{**for_kind(kind), "places": random.randint(4, 6), "steps": random.randint(4, 13)})


def random_wish(random, kind):
    draw = random.randint
    return {"rates": (draw(-6, 10), draw(-6, 10), draw(1, 4)), "through": (draw(0, 12), draw(0, 16)), "on": draw(0, 14),
            "budgets": tuple(random.choice([None] + [draw(0, 30)] * 4) for _ in range(2)),
            "prices": (draw(0, 30), draw(0, 30))}[kind]


def random_row(random, kind):
    draw = random.randint
    if kind == "rates":
        return draw(-8, 8), draw(-8, 8), draw(1, 4)
    if kind in ("through", "on"):
        need = draw(0, 8)
        return need, None if kind == "through" and random.random() < 0.1 else draw(-need, 8)
    return draw(0, 10), draw(0, 10)


def plain_keeps(whole, kind, wish):
    """Whether a whole keeps a wish, by its worths, or beside a part that just keeps it."""
    if kind == "through":
        return worth_in(whole, kind, (0, 0) + tuple(wish))
    if kind == "on":
        return worth_in(whole, kind, (0, [], [], wish))
    if kind == "budgets":
        return worth_in(whole, kind, (0, 0, wish))
    if kind == "rates":
        return never_worse(whole, Part(2, [(0, 0, tuple(wish[:2]), wish[2], 0)], [0], [1]), kind)
    return never_worse(whole, with_row(kind, wish), kind)


def drawn(seed, many, kind):
    random = Random(seed)
    for _ in range(many):
        context, wish = random_context(random, kind), random_wish(random, kind)
        for _ in range(3):
            filler = random_part(random, 1, 1, **{**for_kind(kind), "places": random.randint(2, 4),
                                                  "steps": random.randint(0, 6)})
            yield random, context, wish, filler


class KeepsTest(unittest.TestCase):
    def test_filled(self):
        told = filled(C, ONE_PASS)
        self.assertEqual(told, wired([C, ONE_PASS], [(0, 1, 1, 0), (1, 0, 0, 1)], [[(0, 0)]], [[(0, 0)]]))
        self.assertEqual((told.ins(), told.outs()), ([6], [7]))
        self.assertEqual(filled(context=C, filler=EMPTY).web().places(), 8)

    def test_just_kept(self):
        one = with_row("through", (2, 2))
        for wish, told in [((1, 4), True), ((1, 5), False), ((2, 5), True)]:
            self.assertIs(keeps(C, "through", wish, one), told)
        one = with_row("through", (2, 1))
        self.assertEqual([keeps(C, "through", (1, least), one) for least in (3, 4)], [True, False])
        self.assertEqual([keeps(C, "through", (stock, 3), one) for stock in (0, 1)], [False, True])
        self.assertEqual([keeps(C, "on", stock, with_row("on", (2, 2))) for stock in (0, 1)], [False, True])
        self.assertEqual([keeps(C, "on", 1, with_row("on", (2, gain))) for gain in (1, 2)], [False, True])
        for wish, told in [((4, 1), True), ((3, 1), False), ((4, 0), False), ((None, 1), True), ((4, None), True),
                           ((None, None), True), ((3, None), False)]:
            self.assertIs(keeps(C, "budgets", wish, ONE_PASS), told)
            self.assertIs(keeps(C, "budgets", wish, EMPTY), False)
        for wish, told in [((4, 1), True), ((3, 1), False), ((4, 0), False)]:
            self.assertIs(keeps(C, "prices", wish, ONE_PASS), told)
        for wish, told in [((1, 1, 1), True), ((2, 2, 2), True), ((1, 0, 1), False), ((1, 1, 2), False)]:
            self.assertIs(keeps(C, "rates", wish, with_row("rates", (2, 0, 1))), told)
        self.assertIs(keeps(C, "rates", (4, 0, 1), EMPTY), True)
        self.assertIs(keeps(C, "rates", (3, 100, 1), EMPTY), False)

    def test_stays(self):
        # In the filler with 2, in the context behind with 4, or round and back.
        for stay, told in [(1, True), (2, True), (3, False)]:
            filler = Part(3, [(0, 2, (0, 0), 1, -stay), (2, 2, (0, 0), 1, 0)], [0], [1])
            self.assertIs(keeps(C, "on", 1, filler), told)
            self.assertIs(keeps(C, "on", 0, filler), stay == 1)
        behind = changed(C, (2, 2, (0, 0), 1, -3), (2, 2, (0, 0), 1, 0))
        self.assertEqual(asked(behind, "on", 1), (2, 0))
        behind = changed(C, C_STEPS[2], (2, 3, (0, 0), 1, -3), (3, 3, (0, 0), 1, 0))
        self.assertEqual(asked(behind, "on", 1), (2, 0))
        behind = changed(C, C_STEPS[2], C_STEPS[3], (2, 3, (0, 0), 1, -3), (3, 3, (0, 0), 1, 0))
        self.assertEqual(asked(behind, "on", 1), (2, 3))
        self.assertEqual([keeps(behind, "on", 1, with_row("on", (2, gain))) for gain in (0, 1)], [False, True])

    def test_by_the_whole(self):
        for kind in KINDS:
            for _, context, wish, filler in drawn(181, 40, kind):
                told = keeps(context, kind, wish, filler)
                self.assertIs(told, plain_keeps(filled(context, filler), kind, wish), (kind, wish))
                self.assertIs(keeps(turned(context), kind, turned(wish), turned(filler)), told)
                if kind in ("rates", "prices"):
                    self.assertIs(told, shown(context, kind, wish, filler) is not None)

    def test_never_worse_keeps(self):
        for kind in KINDS:
            for random, context, wish, filler in drawn(182, 25, kind):
                other = random_part(random, 1, 1, **{**for_kind(kind), "places": 3})
                if never_worse(other, filler, kind) and keeps(context, kind, wish, filler):
                    self.assertTrue(keeps(context, kind, wish, other))


class AskedTest(unittest.TestCase):
    def test_example(self):
        self.assertEqual(asked(C, "rates", (1, 1, 1)), ((1, 0), (1, 3), [(1, -1)]))
        self.assertEqual(asked(C, "through", (1, 4)), (2, 4))
        self.assertEqual(asked(C, "through", (1, 40)), (2, 5))
        self.assertEqual(asked(context=C, kind="on", wish=1), (2, 4))
        self.assertEqual(asked(C, "budgets", (5, 4)), [(3, 3)])
        self.assertEqual(asked(C, "prices", (3, 2)), ((1, 0), (0, 1), [(1, 1)]))
        self.assertIs(enough(C, "rates", (1, 1, 1), (2, 0, 1)), True)
        self.assertIs(enough(context=C, kind="rates", wish=(1, 1, 1), row=(0, 1, 1)), False)

    def test_true_and_none(self):
        self.assertIs(asked(C, "rates", (4, 0, 1)), True)
        straight = changed(C, (0, 3, (2, 2), 1, 0))
        self.assertIs(asked(straight, "through", (3, 3)), True)
        self.assertEqual(asked(straight, "through", (3, 4)), (4, 4))
        self.assertIs(asked(straight, "budgets", (2, 2)), True)
        self.assertIs(asked(straight, "budgets", (None, 2)), True)
        self.assertIs(asked(straight, "budgets", (None, None)), True)
        self.assertIs(asked(straight, "prices", (2, 2)), True)
        self.assertEqual(asked(straight, "budgets", (None, 1)), [(None, 0)])
        self.assertIs(asked(changed(C, (0, 0, (0, 0), 1, 0)), "on", 0), True)
        # No way to where the part is lacking, or none on from there.
        shut = changed(C, C_STEPS[1])
        for kind in KINDS:
            self.assertIsNone(asked(shut, kind, WISHES[kind]))
        shut = changed(C, C_STEPS[3])
        for kind in ("through", "budgets", "prices"):
            self.assertIsNone(asked(shut, kind, WISHES[kind]))
        self.assertEqual(asked(shut, "on", 1), (2, 4))
        self.assertEqual(asked(changed(shut, C_STEPS[2]), "on", 1), (2, None))
        self.assertEqual(asked(changed(shut, C_STEPS[2]), "rates", (1, 1, 1)), ((1, 0), (1, 3), []))
        # Too little is left, for any filler.
        self.assertIsNone(asked(C, "budgets", (1, 0)))
        self.assertIsNone(asked(C, "prices", (1, 0)))
        self.assertEqual(asked(C, "budgets", (2, 1)), [(0, 0)])
        self.assertEqual(asked(C, "prices", (2, 1)), ((1, 0), (0, 1), [(0, 0)]))

    def test_any_that_has_a_pass(self):
        self.assertEqual(asked(C, "budgets", (None, None)), ())
        much = changed(C, (0, 0, (4, 0), 1, 1))
        self.assertEqual(asked(much, "through", (0, 400)), ())
        self.assertIs(keeps(much, "through", (0, 400), with_row("through", (99, -99))), True)
        self.assertIs(keeps(much, "through", (0, 400), EMPTY), False)
        self.assertIs(asked(changed(much, C_STEPS[3]), "through", (0, 400)), None)
        self.assertIs(asked(much, "on", 0), True)
        behind = changed(C, (2, 2, (0, 0), 1, 0))
        self.assertEqual(asked(behind, "rates", (1, 1, 1)), ())
        self.assertIs(keeps(behind, "rates", (1, 1, 1), with_row("rates", (9, 9, 1))), True)
        self.assertIs(keeps(behind, "rates", (1, 1, 1), EMPTY), False)
        self.assertIs(keeps(behind, "rates", (1, 1, 1), Part(2, [(0, 0, (1, 1), 1, 0)], [0], [1])), True)
        self.assertIs(enough(behind, "rates", (1, 1, 1), (9, 9, 1)), True)
        self.assertIs(enough(much, "through", (0, 400), (77, -77)), True)
        self.assertIs(enough(C, "budgets", (None, None), (99, 99)), True)

    def test_rows_of_budgets(self):
        more = changed(C, (0, 1, (0, 3), 1, 0), (2, 3, (3, 0), 1, 0))
        self.assertEqual(form(more, "budgets"), [[[], [(0, 3), (1, 0)]], [[(1, 1), (3, 0)], [(0, 2)]]])
        self.assertEqual(asked(more, "budgets", (5, 4)), [(1, 4), (3, 3), (4, 0)])
        self.assertEqual(asked(more, "budgets", (3, 9)), [(1, 8), (2, 5)])
        self.assertEqual(asked(more, "budgets", (None, 4)), [(None, 4)])
        self.assertEqual(asked(more, "budgets", (3, None)), [(2, None)])

    def test_what_is_told_holds(self):
        seen = {}
        for kind in KINDS:
            for random, context, wish, filler in drawn(183, 90, kind):
                ask = asked(context, kind, wish)
                self.assertTrue(same(asked(turned(context), kind, turned(wish)), ask))
                kept = plain_keeps(filled(context, filler), kind, wish)
                self.check(kind, ask, kept, filler)
                row = random_row(random, kind)
                told = enough(context, kind, wish, row)
                self.assertIs(told, plain_keeps(filled(context, with_row(kind, row)), kind, wish), (kind, wish, row))
                if ask in (True, None):
                    self.assertIs(told, ask is True)
                seen[kind, str(ask) if ask in (True, None, ()) else "rows"] = True
        self.assertTrue({(kind, ask) for kind in KINDS for ask in ("True", "None", "rows")} <= set(seen), seen)

    def check(self, kind, ask, kept, filler):
        told = form(filler, kind)
        if ask is True or ask is None:
            self.assertEqual(kept, ask is True)
        elif ask == ():
            self.assertTrue(kept or not passes(filler, 0, 0))
            self.assertTrue(not kept or passes(filler, 0, 0) or kind == "rates")
        elif kind in ("through", "on"):
            self.assertIs(type(ask), tuple)
            stay = told[0][0] if kind == "on" else None
            most = by_stairs(form(filler, "through")[0][0], ask[0])
            leaves = ask[1] is not None and (most is None or most >= ask[1])
            self.assertEqual(kept, leaves or stay is not None and stay <= ask[0])
        elif kind == "budgets":
            self.assertIs(type(ask), list)
            self.assertEqual(ask, sorted(set(ask)))
            self.assertEqual(kept, any(all(bound is None or amount <= bound for amount, bound in zip(pair, bounds))
                                       for pair in told[0][0] for bounds in ask))
        else:
            low, high, points = ask
            self.assertEqual(points, sorted(set(points)))
            self.assertTrue(low[0] * high[1] > high[0] * low[1] and min(low + high) >= 0)

    def test_rows_by_enough(self):
        for kind in ("through", "on", "budgets"):
            for _, context, wish, filler in drawn(184, 40, kind):
                told = form(filler, kind)[0]
                rows = told[1][0] if kind == "on" else told[0]
                ask = asked(context, kind, wish)
                stays = kind == "on" and type(ask) is tuple and told[0] is not None and told[0] <= ask[0]
                self.assertEqual(keeps(context, kind, wish, filler), ask is True or stays or any(
                    enough(context, kind, wish, row) for row in rows))

    def test_edges_of_points(self):
        for kind, wish, good, bad in [
                ("through", (1, 4), [(2, 2), (0, 2), (2, None), (1, 3)], [(3, 9), (2, 1), (3, None)]),
                ("on", 1, [(2, 2), (0, 5)], [(3, 9), (2, 1)]),
                ("budgets", (5, 4), [(3, 3), (0, 0)], [(4, 3), (3, 4)]),
                ("prices", (3, 2), [(1, 1), (0, 0)], [(2, 0), (0, 2), (1, 2)]),
                ("rates", (1, 1, 1), [(2, 0, 1), (1, 0, 1), (-7, 3, 1)], [(0, 1, 1), (3, -1, 1), (2, 1, 1)])]:
            for row in good:
                self.assertIs(enough(C, kind, wish, row), True, (kind, row))
            for row in bad:
                self.assertIs(enough(C, kind, wish, row), False, (kind, row))
        self.assertIs(enough(changed(C, C_STEPS[3], C_STEPS[2]), "on", 1, (2, 9)), False)
        self.assertIs(enough(changed(C, C_STEPS[2]), "rates", (1, 1, 1), (-99, -99, 1)), False)

    def test_points_between(self):
        # At some prices one point is the greatest, at some the other one; the third one never alone.
        more = changed(C, (0, 1, (0, 2), 1, 0), (2, 1, (5, 5), 1, 0))
        self.assertEqual(form(more, "prices")[0][1], [(0, 2), (1, 0)])
        low, high, points = asked(more, "prices", (9, 9))
        self.assertEqual((low, high, points), ((1, 0), (0, 1), [(7, 8), (8, 6)]))
        self.assertIs(enough(more, "prices", (9, 9), (7, 8)), True)
        self.assertIs(enough(more, "prices", (9, 9), (8, 7)), False)
        self.assertIs(enough(more, "prices", (9, 9), (8, 6)), True)


class ShownTest(unittest.TestCase):
    def test_example(self):
        other = with_row("rates", (0, 1, 1))
        self.assertEqual(short_at(C, "rates", (1, 1, 1), other), (2, 5))
        self.assertIsNone(shown(C, "rates", (1, 1, 1), other))
        one = with_row("rates", (2, 0, 1))
        self.assertEqual(shown(C, "rates", (1, 1, 1), one), {("again", (2, 0, 1), (0, 2, 1)): 1})
        self.assertIsNone(short_at(context=C, kind="rates", wish=(1, 1, 1), filler=one))
        self.assertEqual(short_at(changed(C, C_STEPS[0]), "rates", (1, 1, 1), EMPTY), (1, 1))

    def over(self, kind, wish, key):
        rows = key[1:]
        total = [sum(row[k] for row in rows) for k in range(len(rows[0]))]
        if kind == "prices":
            return total[0] - wish[0], total[1] - wish[1]
        return wish[2] * total[0] - wish[0] * total[2], wish[2] * total[1] - wish[1] * total[2]

    def keys(self, context, kind, filler):
        told, inner = form(context, kind), form(filler, kind)[0]
        if kind == "prices":
            return [("free", row) for row in told[0][0]] + [("through", one, row, other) for one in told[0][1]
                                                            for row in inner[0] for other in told[1][0]]
        found = [("free", row) for row in told[0][0]]
        if told[0][1][1]:
            found += [("inside", row) for row in inner[0]]
            found += [("behind", row) for row in told[1][0] if inner[1][0]]
            found += [("again", row, other) for row in inner[1][0] for other in told[1][1][1]]
        return found

    def is_mix(self, context, kind, wish, filler, mix):
        keys = self.keys(context, kind, filler)
        overs = {key: self.over(kind, wish, key) for key in mix}
        return bool(mix) and all(key in keys for key in mix) and all(
            sum(overs[key][k] * mix[key] for key in mix) <= 0 for k in (0, 1))

    def test_just_one(self):
        for kind in ("rates", "prices"):
            found = {1: 0, None: 0}
            for random, context, wish, filler in drawn(185, 80, kind):
                mix, prices = shown(context, kind, wish, filler), short_at(context, kind, wish, filler)
                self.assertNotEqual(mix is None, prices is None)
                self.assertEqual(mix is not None, plain_keeps(filled(context, filler), kind, wish))
                found[None if mix is None else 1] += 1
                whole = filled(context, filler)
                if mix is None:
                    self.assertTrue(min(prices) >= 1)
                    around = (0, [], prices) if kind == "rates" else (0, 0, prices)
                    worth = worth_in(whole, kind, around)
                    if worth is not None and kind == "rates":
                        self.assertGreater(Fraction(*worth), Fraction(cost(prices, wish), wish[2]))
                    elif worth is not None:
                        self.assertGreater(worth, cost(prices, wish))
                    continue
                self.assertTrue(self.is_mix(context, kind, wish, filler, mix))
                self.assertEqual(list(mix), sorted(mix))
                self.assertIs(is_shown(context, kind, wish, filler, mix), True)
                keys = self.keys(context, kind, filler)
                for _ in range(3):
                    other = {**mix, random.choice(keys): random.randint(1, 4)}
                    self.assertEqual(is_shown(context, kind, wish, filler, other),
                                     self.is_mix(context, kind, wish, filler, other))
            self.assertTrue(min(found.values()) > 0, found)

    def test_two_keys(self):
        rings = changed(C, (0, 0, (0, 4), 1, 0))
        for wish, told in [((2, 2, 1), {("free", (0, 4, 1)): 1, ("free", (4, 0, 1)): 1}), ((1, 3, 1), {
                ("free", (0, 4, 1)): 3, ("free", (4, 0, 1)): 1})]:
            self.assertEqual(shown(rings, "rates", wish, EMPTY), told)
            self.assertTrue(is_shown(rings, "rates", wish, EMPTY, told))
            self.assertIs(asked(rings, "rates", wish), True)
        self.assertEqual(short_at(rings, "rates", (7, 7, 4), EMPTY), (1, 1))
        two = changed(C, (0, 3, (0, 9), 1, 0))
        mix = shown(two, "prices", (2, 5), with_row("prices", (2, 0)))
        self.assertEqual(len(mix), 2)
        self.assertTrue(is_shown(two, "prices", (2, 5), with_row("prices", (2, 0)), mix))
        self.assertTrue(self.is_mix(two, "prices", (2, 5), with_row("prices", (2, 0)), mix))

    def test_is_shown(self):
        one = with_row("rates", (2, 0, 1))
        good = ("again", (2, 0, 1), (0, 2, 1))
        self.assertTrue(is_shown(C, "rates", (1, 1, 1), one, {good: 7}))
        self.assertTrue(is_shown(C, "rates", (3, 1, 1), one, {good: 3, ("free", (4, 0, 1)): 2}))
        wrong = [{}, {good: 0}, {good: True}, {good: -1}, {good: None}, {("again", (2, 0, True), (0, 2, 1)): 1},
                 {("again", (2, 0, 1), (0, 2, True)): 1}, {("again", (2, 0, 1)): 1}, {("inside", (2, 0, 1)): 1},
                 {("free", (2, 0, 1)): 1}, {("behind", (0, 0, 1)): 1}, {good: 1, "free": 1}, {good: 1, ("free", (4, 0, 1)): 1},
                 {("free", (4, 0, 1)): 1}, {("free", (4, False, 1)): 1}, {(2, 0, 1): 1}, [good], [[good, 1]]]
        for thing in wrong + objects():
            self.assertIs(is_shown(C, "rates", (1, 1, 1), one, thing), False, thing)
        two = with_row("prices", (1, 1))
        self.assertTrue(is_shown(C, "prices", (3, 2), two, {("through", (1, 0), (1, 1), (1, 1)): 1}))
        for thing in [{("through", (1, 0), (1, 1), (1, True)): 1}, {("through", (True, 0), (1, 1), (1, 1)): 1},
                      {("through", (1, 0), (1, 1)): 1}, {("free", (1, 1)): 1}] + objects():
            self.assertIs(is_shown(C, "prices", (3, 2), two, thing), False, thing)
        self.assertFalse(is_shown(C, "prices", (2, 2), two, {("through", (1, 0), (1, 1), (1, 1)): 1}))


class ErrorsTest(unittest.TestCase):
    CALLS = [("keeps", lambda c, k, w, f: keeps(c, k, w, f)), ("shown", lambda c, k, w, f: shown(c, k, w, f)),
             ("short_at", lambda c, k, w, f: short_at(c, k, w, f)), ("is_shown", lambda c, k, w, f: is_shown(c, k, w, f, None)),
             ("asked", lambda c, k, w, f: asked(c, k, w)), ("enough", lambda c, k, w, f: enough(c, k, w, None))]

    def test_contexts_and_fillers(self):
        for thing in objects() + [Part(4, [], [0, 1], [2]), Part(5, [], [0, 1, 4], [2, 3]), EMPTY]:
            for _, call in self.CALLS:
                with self.assertRaises(BadContext) as caught:
                    call(thing, None, None, None)
                self.assertIs(caught.exception.thing, thing)
            self.assertRaises(BadContext, filled, thing, None)
        for thing in objects() + [C, Part(3, [], [0, 1], [2]), Part(3, [], [0], [1, 2])]:
            if isinstance(thing, Part) and (len(thing.ins()), len(thing.outs())) == (1, 1):
                continue
            with self.assertRaises(BadFiller) as caught:
                filled(C, thing)
            self.assertIs(caught.exception.thing, thing)
            for name, call in self.CALLS[:4]:
                for kind in KINDS if name == "keeps" else ("rates", "prices"):
                    self.assertRaises(BadFiller, call, C, kind, WISHES[kind], thing)

    def test_kinds(self):
        below = changed(C, (0, 3, (0, -1), 1, 0))
        for name, call in self.CALLS:
            for thing in objects() + (["through", "on", "budgets"] if "sho" in name else []):
                with self.assertRaises(BadKind) as caught:
                    call(below, thing, None, None)
                self.assertIs(caught.exception.kind, thing)
            with self.assertRaises(HasBelow) as caught:
                call(below, "prices", None, None)
            self.assertEqual(caught.exception.step, (0, 3, (0, -1), 1, 0))
        filler = Part(2, [(0, 1, (3, -2), 1, 0)], [0], [1])
        for name, call in self.CALLS[:4]:
            with self.assertRaises(HasBelow) as caught:
                call(C, "prices", (1, 1), filler)
            self.assertEqual(caught.exception.step, (0, 1, (3, -2), 1, 0))
            self.assertRaises(BadWish, call, C, "prices", None, filler)
        self.assertRaises(HasBelow, keeps, C, "budgets", (1, 1), filler)
        self.assertRaises(HasBelow, asked, below, "budgets", None)
        keeps(below, "rates", (1, 1, 1), filler)
        keeps(below, "through", (1, 1), filler)

    def test_wishes(self):
        wrong = {"rates": [(1, 1), (1, 1, 0), (1, 1, True), (1, 1, -1), (1, None, 1), 1], "through": [(1,), (1, -1), (-1, 1), (1, None), (1, 1, 1), 3],
                 "on": [-1, True, (1,), None, (1, 1)], "budgets": [(1,), (1, -1), (True, 1), (1, 1, 1), None, 3, ((1, 1), None)],
                 "prices": [(1,), (1, -1), (None, 1), (1, 1, 1), 3, (1, False)]}
        for name, call in self.CALLS:
            for kind in ("rates", "prices") if "sho" in name else KINDS:
                for thing in wrong[kind]:
                    with self.assertRaises(BadWish, msg=(kind, thing)) as caught:
                        call(C, kind, thing, None)
                    self.assertIs(caught.exception.wish, thing)

    def test_rows(self):
        wrong = {"rates": [(1, 1), (1, 1, 0), (1, True, 1), None, (1, 1, 1, 1)],
                 "through": [(1, -2), (-1, 1), (None, 1), (1,), (1, 1, 1), (1, True), (True, 1), 1],
                 "on": [(1, -2), (-1, 1), (1, None), (1,), (1, 1, 1), (1, True)],
                 "budgets": [(1, -1), (1, None), (None, None), (1,), (1, 1, 1)], "prices": [(1, -1), (1, None), (1,), (1, 1, 1)]}
        for kind in KINDS:
            for thing in wrong[kind] + objects():
                if thing == (1, 2) and kind != "rates" or isinstance(thing, list) and thing == [1, 2, 3] and kind == "rates":
                    continue
                with self.assertRaises(BadRow, msg=(kind, thing)) as caught:
                    enough(C, kind, WISHES[kind], thing)
                self.assertIs(caught.exception.row, thing)
            # Where nothing is asked, too.
            self.assertRaises(BadRow, enough, changed(C, C_STEPS[1]), kind, WISHES[kind], None)


if __name__ == "__main__":
    unittest.main()
