import copy
import unittest
from random import Random

from anyaround.errors import BadKind, BadSurrounding, HasBelow, UnlikeDoors
from anyaround.kinds import alike, apart, are_papers, form, never_worse, papers, worse_in, worth_in
from anyaround.parts import Part
from anyaround.passes import corners

from tests.brute import P_STEPS, V_STEPS, objects, part_p, random_web
from tests.plain import KINDS, for_kind, is_worse, plain_form, plain_worth, random_part, random_surrounding
from tests.test_everywhere import same, turned

ROUND = (0, 0, (0, 0), 1, 0)
Q = Part(3, P_STEPS + [(0, 2, (1, 3), 2, 0)], [0], [2])
V = Part(4, V_STEPS, [0], [2])
V_LESS = Part(4, V_STEPS[1:], [0], [2])
BELOW = (0, 2, (3, -1), 1, 0)


def changed(part, *changes):
    """A part with steps more and less: those that it has are left out."""
    steps = part.web().steps()
    for step in changes:
        if step in steps:
            steps.remove(step)
        else:
            steps.append(step)
    return Part(part.web().places(), steps, part.ins(), part.outs())


def renamed(part, order):
    """The same part with other numbers of its places."""
    steps = [(order[step[0]], order[step[1]]) + step[2:] for step in part.web().steps()]
    return Part(part.web().places(), steps, [order[place] for place in part.ins()],
                [order[place] for place in part.outs()])


def pairs_of_parts(seed, many, kind):
    """Pairs of parts with like many doors: drawn each for itself, or one made of the other."""
    random = Random(seed)
    for k in range(many):
        ins, outs = random.randint(1, 2), random.randint(1, 2)
        one = random_part(random, ins, outs, **for_kind(kind))
        other = random_part(random, ins, outs, **for_kind(kind))
        if k % 2:
            more = random_web(random, one.web().places(), 1, least=for_kind(kind).get("below", None)).steps()
            kept = [step for step in one.web().steps() + more if random.random() < 0.9]
            other = Part(one.web().places(), list(dict.fromkeys(kept)), one.ins(), one.outs())
        yield random, one, other


class WorthTest(unittest.TestCase):
    def test_rates(self):
        p = part_p()
        self.assertEqual(worth_in(p, "rates", (0, [ROUND], (1, 1))), (1, 1))
        self.assertEqual(worth_in(p, "rates", (0, [], (1, 1))), (2, 1))
        self.assertEqual(worth_in(p, "rates", (0, [], (2, 4))), (4, 1))
        self.assertEqual(worth_in(p, "rates", (0, [(0, 0, (-9, 0), 2, 0), ROUND, (0, 0, (0, -5), 1, 3)], (1, 1))), (-5, 3))
        without = changed(p, P_STEPS[1])
        self.assertIsNone(worth_in(without, "rates", (0, [], (1, 1))))
        self.assertEqual(worth_in(without, "rates", (0, [ROUND], (1, 1))), (1, 1))
        # The way back comes out as a step of the part.
        own = changed(without, (2, 0, (0, 0), 1, 0))
        self.assertEqual(worth_in(own, "rates", (0, [ROUND], (1, 1))), worth_in(own, "rates", (0, [], (1, 1))))
        two = Part(4, [(0, 2, (1, 0), 1, 0), (1, 3, (5, 0), 1, 0)], [0, 1], [2, 3])
        self.assertIsNone(worth_in(two, "rates", (0, [(0, 1, (0, 0), 1, 0)], (1, 1))))
        self.assertEqual(worth_in(two, "rates", (0, [(0, 1, (0, 0), 1, 0), (1, 1, (0, 0), 1, 0)], (1, 1))), (5, 2))

    def test_through(self):
        for stock, wanted, told in [(0, 0, False), (1, 0, True), (1, 1, False), (2, 1, True), (2, 2, False),
                                    (3, 5, True), (3, 6, False), (4, 6, True), (5, 1000, True)]:
            self.assertIs(worth_in(V, "through", (0, 0, stock, wanted)), told)
        self.assertIs(worth_in(Part(2, [], [0], [1]), "through", (0, 0, 9, 0)), False)

    def test_on(self):
        way = (0, 0, (0, 0), 1, 2)
        self.assertIs(worth_in(V, "on", (0, [way], [], 1)), True)
        self.assertIs(worth_in(V, "on", (0, [way], [], 0)), False)
        self.assertIs(worth_in(V, "on", (0, [], [], 4)), False)
        self.assertIs(worth_in(V, "on", (0, [], [], 5)), True)
        self.assertIs(worth_in(V, "on", (0, [], [(0, 5)], 3)), True)
        self.assertIs(worth_in(V, "on", (0, [], [(0, 6)], 3)), False)
        self.assertIs(worth_in(V, "on", (0, [], [(0, 9), (0, 5)], 3)), True)
        self.assertIs(worth_in(V, "on", (0, [], [(0, 0)], 0)), False)
        # Round by the way back one has more each time, and leaves at last.
        self.assertIs(worth_in(V, "on", (0, [way], [(0, 900)], 1)), True)
        self.assertIs(worth_in(V, "on", (0, [(0, 0, (0, 0), 1, 0)], [(0, 2)], 2)), False)

    def test_rings_that_lose_nothing(self):
        ring = Part(4, [(0, 1, (0, 0), 1, -2), (1, 0, (0, 0), 1, 2), (0, 2, (0, 0), 1, 0), (2, 2, (0, 0), 1, -1)], [0], [3])
        self.assertEqual([worth_in(ring, "on", (0, [], [], stock)) for stock in range(4)], [False, False, True, True])
        back = Part(3, [(0, 1, (0, 0), 1, 3), (1, 2, (0, 0), 1, -5)], [0], [2])
        for change, told in [(1, False), (2, True), (3, True)]:
            self.assertIs(worth_in(back, "on", (0, [(0, 0, (0, 0), 1, change)], [], 2)), told)
        self.assertIs(worth_in(back, "on", (0, [(0, 0, (0, 0), 1, 2)], [], 1)), False)

    def test_costs(self):
        p = part_p()
        for budget, told in [((2, 1), True), ((1, 3), False), ((None, 1), True), ((1, None), True), ((None, 0), False),
                             ((None, None), True), ((0, 4), True), ((0, 3), False), ((1000, 1000), True)]:
            self.assertIs(worth_in(p, "budgets", (0, 0, budget)), told)
        self.assertEqual(worth_in(p, "prices", (0, 0, (1, 1))), 3)
        self.assertEqual(worth_in(p, "prices", (0, 0, (1, 2))), 4)
        none = Part(2, [], [0], [1])
        self.assertIs(worth_in(none, "budgets", (0, 0, (None, None))), False)
        self.assertIsNone(worth_in(none, "prices", (0, 0, (1, 1))))

    def test_by_search(self):
        for kind in KINDS:
            for random, one, _ in pairs_of_parts(101, 40, kind):
                for _ in range(6):
                    around = random_surrounding(random, kind, len(one.ins()), len(one.outs()), ways=4)
                    kept = copy.deepcopy(around)
                    told = worth_in(one, kind, around)
                    self.assertEqual(told, plain_worth(one, kind, around), (kind, around))
                    self.assertTrue(same(worth_in(one, kind, turned(around)), told))
                    self.assertTrue(same(worth_in(one, kind, around), told))
                    self.assertEqual(around, kept)

    def test_bad_kind(self):
        for thing in objects() + ["rate", "Rates", "rates "]:
            for call in [lambda: worth_in(None, thing, None), lambda: form(None, thing),
                         lambda: alike(None, None, thing), lambda: apart(part_p(), None, thing),
                         lambda: never_worse(0, 0, thing), lambda: worse_in(0, 0, thing),
                         lambda: papers(0, 0, thing), lambda: are_papers(0, 0, thing, None)]:
                with self.assertRaises(BadKind) as caught:
                    call()
                self.assertIs(caught.exception.kind, thing)

    def test_has_below(self):
        bad = changed(part_p(), BELOW, (1, 1, (-1, 0), 1, 0), (2, 0, (0, -1), 1, 0))
        for kind in ("budgets", "prices"):
            for call in [lambda: worth_in(bad, kind, None), lambda: form(bad, kind), lambda: alike(bad, Q, kind),
                         lambda: apart(Q, bad, kind), lambda: never_worse(bad, bad, kind),
                         lambda: worse_in(Q, bad, kind), lambda: papers(bad, Q, kind),
                         lambda: are_papers(Q, bad, kind, [])]:
                with self.assertRaises(HasBelow) as caught:
                    call()
                self.assertEqual(caught.exception.step, BELOW)
            with self.assertRaises(HasBelow) as caught:
                alike(changed(part_p(), (2, 2, (0, -3), 1, 0)), bad, kind)
            self.assertEqual(caught.exception.step, (2, 2, (0, -3), 1, 0))
        self.assertEqual(worth_in(bad, "rates", (0, [], (1, 1))), (-1, 1))

    def test_unlike_doors(self):
        bad = changed(part_p(), BELOW)
        two = Part(4, P_STEPS, [0, 1], [2])
        for kind in KINDS:
            for one, other in [(bad, two), (two, bad), (two, Part(4, P_STEPS, [0], [2, 3]))]:
                for call in [alike, apart, never_worse, worse_in, papers]:
                    self.assertRaises(UnlikeDoors, call, one, other, kind)
                self.assertRaises(UnlikeDoors, are_papers, one, other, kind, None)

    def test_bad_surrounding(self):
        p = Part(4, P_STEPS, [0, 1], [2])
        way, ends = [(0, 1, (0, 0), 1, 0)], [(0, 3)]
        good = {"rates": (1, way, (1, 1)), "through": (1, 0, 3, 3), "on": (1, way, ends, 3),
                "budgets": (1, 0, (3, None)), "prices": (1, 0, (1, 1))}
        wrong = {"rates": [(2, [], (1, 1)), (0, [], (0, 1)), (0, [], (1, 1, 1)), (0, way * 2, (1, 1)), (0, None, (1, 1)),
                           (0, [(1, 0, (0, 0), 1, 0)], (1, 1)), (0, [(0, 2, (0, 0), 1, 0)], (1, 1)),
                           (0, [(0, 0, (0, 0), 0, 0)], (1, 1)), (True, [], (1, 1)), (0, [], (1, 1), 0), (0, [], (1, True))],
                 "through": [(2, 0, 1, 1), (0, 1, 1, 1), (0, 0, -1, 1), (0, 0, 1, -1), (0, 0, 1), (0, 0, None, 1),
                             (0, 0, 1, None), (0, False, 1, 1), (0, 0, 1, 1, 1), (-1, 0, 1, 1)],
                 "on": [(2, [], [], 1), (0, [], [], -1), (0, [], [(1, 1)], 1), (0, [], [(0, -1)], 1), (0, [], ends * 2, 1),
                        (0, [], None, 1), (0, 0, [], 1), (0, [], [(0, 1), [0, 1]], 1), (0, [], []), (0, [], [(0,)], 1),
                        (0, [], [], None), (0, [], [(False, 1)], 1)],
                 "budgets": [(2, 0, (1, 1)), (0, 1, (1, 1)), (0, 0, (1, -1)), (0, 0, (1,)), (0, 0, None), (0, 0, (1, True)),
                             (0, 0, (1, 1, 1)), (0, 0, "ab")],
                 "prices": [(2, 0, (1, 1)), (0, 1, (1, 1)), (0, 0, (0, 1)), (0, 0, (1, None)), (0, 0, (1, 1), 0), (0, 0)]}
        for kind in KINDS:
            worth_in(p, kind, good[kind])
            others = [good[other] for other in KINDS if other != kind and {kind, other} != {"budgets", "prices"}]
            for thing in objects() + wrong[kind] + others:
                with self.assertRaises(BadSurrounding, msg=(kind, thing)) as caught:
                    worth_in(p, kind, thing)
                self.assertIs(caught.exception.surrounding, thing)


class FormTest(unittest.TestCase):
    def test_examples(self):
        p = part_p()
        self.assertEqual(form(p, "rates"), [([(2, 0, 1)], [[(0, 4, 1), (2, 1, 2)]])])
        without = changed(p, P_STEPS[1])
        self.assertEqual(form(without, "rates"), [([], [[(0, 4, 1), (2, 1, 2)]])])
        self.assertEqual(corners(without, 0), [(1, 0, 0), (0, 1, 0), (0, 0, 1), (0, 0, -1)])
        longer = Part(3, [(0, 1, (0, 0), 1, 0), (1, 1, (1, 1), 1, 0), (1, 2, (0, 0), 1, 0), (0, 2, (3, 3), 5, 0)], [0], [2])
        self.assertEqual(form(longer, "rates"), [([(1, 1, 1)], [[(0, 0, 2)]])])
        # Without the ring nothing makes the longer pass dear.
        self.assertEqual(form(changed(longer, (1, 1, (1, 1), 1, 0)), "rates"), [([], [[(0, 0, 2), (3, 3, 5)]])])
        self.assertEqual(form(V, "through"), [[[(1, -1), (3, 2), (5, None)]]])
        self.assertEqual(form(V, "on"), [(5, [[(1, -1), (3, 2)]])])
        self.assertEqual(form(V_LESS, "through"), [[[(1, -1), (5, None)]]])
        self.assertEqual(form(V_LESS, "on"), [(5, [[(1, -1)]])])
        for change in (7, 0, -3):
            other = changed(V, V_STEPS[1], V_STEPS[4], (3, 2, (0, 0), 1, change))
            self.assertEqual(form(other, "on"), [(5, [[(3, 2)]])])
        self.assertEqual(form(p, "budgets"), [[[(0, 4), (2, 1)]]])
        self.assertEqual(form(Q, "budgets"), [[[(0, 4), (1, 3), (2, 1)]]])
        self.assertEqual(form(Q, "prices"), form(p, "prices"))

    def test_no_passes(self):
        part = Part(3, [(1, 1, (1, 1), 2, 1), (2, 0, (0, 0), 1, 0)], [0], [1, 2])
        self.assertEqual(form(part, "rates"), [([], [[], []])])
        self.assertEqual(form(part, "through"), [[[], []]])
        self.assertEqual(form(part, "on"), [(None, [[], []])])
        self.assertEqual(form(part, "budgets"), [[[], []]])
        self.assertEqual(form(part, "prices"), [[[], []]])

    def test_pairs_that_only_tie(self):
        steps = [(0, 1, amounts, 1, 0) for amounts in [(0, 4), (2, 2), (4, 0), (4, 1)]]
        part = Part(2, steps, [0], [1])
        self.assertEqual(form(part, "prices"), [[[(0, 4), (4, 0)]]])
        self.assertEqual(form(part, "budgets"), [[[(0, 4), (2, 2), (4, 0)]]])
        self.assertEqual(form(part, "rates"), [([], [[(0, 4, 1), (4, 0, 1)]])])

    def test_doors_exchanged(self):
        part = Part(4, P_STEPS + [(3, 1, (7, 7), 3, 2), (1, 3, (0, 1), 2, 0)], [0, 3], [2])
        back = Part(4, part.web().steps()[::-1], [3, 0], [2])
        for kind in KINDS:
            self.assertEqual(form(back, kind), form(part, kind)[::-1])
        part = Part(4, P_STEPS + [(1, 3, (0, 1), 2, 0)], [0], [2, 3])
        back = Part(4, part.web().steps(), [0], [3, 2])
        for kind in KINDS:
            one, other = form(part, kind)[0], form(back, kind)[0]
            if kind in ("rates", "on"):
                self.assertEqual(one[0], other[0])
                one, other = one[1], other[1]
            self.assertEqual(one, other[::-1])

    def test_as_searched(self):
        for kind in KINDS:
            for _, one, _ in pairs_of_parts(102, 60, kind):
                told = form(one, kind)
                self.assertTrue(same(told, plain_form(one, kind)), (kind, one.web().steps(), one.ins(), one.outs()))
                form(one, kind).clear()
                self.assertEqual(form(one, kind), told)

    def test_later_ways(self):
        # What is cheaper by a place further off is cheaper behind it, too.
        steps = [(0, 1, (9, 9), 1, 0), (0, 2, (0, 0), 1, 0), (2, 1, (0, 1), 1, 0), (1, 3, (1, 0), 1, 0), (3, 4, (0, 0), 1, 0)]
        part = Part(5, steps, [0], [4])
        self.assertEqual(form(part, "rates"), [([], [[(1, 1, 4), (10, 9, 3)]])])
        random = Random(8)
        for _ in range(60):
            part = random_part(random, 1, 1, places=6, steps=random.randint(11, 15), amount=9, ticks=3)
            self.assertEqual(form(part, "rates"), plain_form(part, "rates"))

    def test_many_passes(self):
        random = Random(7)
        for _ in range(40):
            rows = [((random.randint(-6, 6), random.randint(-6, 6)), random.randint(1, 5)) for _ in range(9)]
            rings = [((random.randint(-2, 6), random.randint(-2, 6)), random.randint(1, 5))
                     for _ in range(random.randint(0, 3))]
            steps = {(0, 1) + row + (0,) for row in rows} | {(0, 0) + ring + (0,) for ring in rings}
            part = Part(2, list(steps), [0], [1])
            self.assertEqual(form(part, "rates"), plain_form(part, "rates"))


class BesideTest(unittest.TestCase):
    def test_examples(self):
        p = part_p()
        without = changed(p, P_STEPS[1])
        self.assertFalse(alike(p, without, "rates"))
        self.check_apart(p, without, "rates")
        self.assertEqual(papers(V, V_LESS, "through"), [[[0, 2]]])
        self.assertEqual(papers(V, V_LESS, "on"), [[[0]]])
        self.assertTrue(never_worse(V, V_LESS, "on"))
        self.assertEqual(worse_in(V_LESS, V, "through"), (0, 0, 3, 5))
        self.assertEqual(worse_in(V_LESS, V, "on"), (0, [], [(0, 5)], 3))
        self.assertEqual(apart(p, Q, "budgets"), (0, 0, (1, 3)))
        self.assertIsNone(apart(p, Q, "prices"))
        self.assertEqual(papers(p, Q, "prices"), [[[{(0, 4): 1}, {(2, 1): 1}]]])
        self.assertTrue(alike(p, Q, "prices"))

    def check_apart(self, one, other, kind):
        """Whether just one holds, and what is told holds; and whether one is never worse."""
        around = apart(one, other, kind)
        self.assertEqual(alike(one, other, kind), around is None)
        self.assertEqual(alike(one, other, kind), form(one, kind) == form(other, kind))
        if around is not None:
            self.check_around(kind, around)
            self.assertNotEqual(plain_worth(one, kind, around), plain_worth(other, kind, around))
            self.assertEqual(worth_in(one, kind, around), plain_worth(one, kind, around))

    def check_around(self, kind, around):
        self.assertIs(type(around), tuple)
        if kind in ("rates", "on"):
            self.assertIs(type(around[1]), list)
            self.assertLessEqual(len(around[1]), 1)

    def check_worse(self, one, other, kind):
        around = worse_in(one, other, kind)
        found = papers(one, other, kind)
        self.assertEqual(never_worse(one, other, kind), around is None)
        self.assertEqual(around is None, found is not None)
        self.assertIs(are_papers(one, other, kind, found), found is not None)
        if around is not None:
            self.check_around(kind, around)
            self.assertTrue(is_worse(kind, plain_worth(one, kind, around), plain_worth(other, kind, around)))
            self.assertTrue(same(worse_in(one, other, kind), around))
        return around is None

    def test_just_one(self):
        for kind in KINDS:
            for random, one, other in pairs_of_parts(103, 60, kind):
                self.check_apart(one, other, kind)
                never = self.check_worse(one, other, kind)
                back = self.check_worse(other, one, kind)
                self.assertEqual(alike(one, other, kind), never and back)
                for _ in range(4):
                    around = random_surrounding(random, kind, len(one.ins()), len(one.outs()), ways=3)
                    worths = [worth_in(part, kind, around) for part in (one, other)]
                    self.assertFalse(never and is_worse(kind, *worths))
                    self.assertFalse(alike(one, other, kind) and worths[0] != worths[1])

    def test_names_of_places(self):
        random = Random(104)
        for kind in KINDS:
            for _ in range(15):
                part = random_part(random, **for_kind(kind))
                order = list(range(part.web().places()))
                random.shuffle(order)
                other = renamed(part, order)
                self.assertIs(alike(part, other, kind), True)
                self.assertIsNone(apart(part, other, kind))
                self.assertIs(never_worse(part, other, kind), True)
                self.assertTrue(are_papers(part, other, kind, papers(part, other, kind)))

    def test_changes_and_ticks(self):
        # Of costs neither ticks nor changes are seen, of stocks neither amounts nor ticks, of rates no changes.
        random = Random(105)
        for _ in range(20):
            part = random_part(random, below=False, change=4)
            steps = part.web().steps()
            other = Part(part.web().places(), list({step[:3] + (random.randint(1, 6), random.randint(-9, 9))
                                                   for step in steps}), part.ins(), part.outs())
            self.assertTrue(alike(part, other, "budgets") and alike(part, other, "prices"))
            other = Part(part.web().places(), list({step[:4] + (random.randint(-9, 9),) for step in steps}),
                         part.ins(), part.outs())
            self.assertTrue(alike(part, other, "rates"))
            other = Part(part.web().places(), list({step[:2] + ((3, random.randint(-9, 9)), 2, step[4])
                                                   for step in steps}), part.ins(), part.outs())
            self.assertTrue(alike(part, other, "through") and alike(part, other, "on"))

    def test_step_and_ring_more(self):
        p = part_p()
        for dear in [(0, 2, (5, 5), 2, 0), (0, 1, (1, 1), 2, 0), (1, 2, (9, 0), 1, 0)]:
            self.assertTrue(alike(p, changed(p, dear), "prices"))
            self.assertTrue(alike(p, changed(p, dear), "budgets"))
        more = changed(p, (0, 2, (1, 1), 1, 0))
        self.assertTrue(never_worse(more, p, "budgets") and not never_worse(p, more, "budgets"))
        self.assertTrue(never_worse(more, p, "prices") and not never_worse(p, more, "prices"))
        ring = changed(p, (2, 2, (0, 0), 1, 0))
        self.assertTrue(never_worse(ring, p, "rates") and not never_worse(p, ring, "rates"))
        self.assertEqual(plain_worth(p, "rates", worse_in(p, ring, "rates")), (2, 1))
        stay = changed(V, (0, 0, (0, 0), 1, 0))
        self.assertTrue(alike(V, stay, "through") and never_worse(stay, V, "on"))
        self.assertEqual(worse_in(V, stay, "on"), (0, [], [], 0))

    def test_which_sees_more(self):
        one, other = Part(2, [(0, 1, (0, 0), 1, 0)], [0], [1]), Part(2, [(0, 1, (0, 0), 1, 0), (0, 0, (0, 0), 1, 0)], [0], [1])
        self.assertTrue(alike(one, other, "through") and not alike(one, other, "on"))
        free = Part(2, [(0, 0, (0, 0), 1, 0)], [0], [1])
        self.assertTrue(alike(free, other, "on") and not alike(free, other, "through"))
        random = Random(106)
        for _ in range(40):
            one, other = [random_part(random, 1, 1, change=3) for _ in range(2)]
            stays = [form(part, "on")[0][0] for part in (one, other)]
            if never_worse(one, other, "through") and (stays[1] is None or (stays[0] or 0) <= stays[1] and stays[0] is not None):
                self.assertTrue(never_worse(one, other, "on"))
            one, other = [random_part(random, 1, 1, below=False) for _ in range(2)]
            if never_worse(one, other, "budgets"):
                self.assertTrue(never_worse(one, other, "prices"))
            if alike(one, other, "rates"):
                self.assertTrue(alike(one, other, "prices"))


class PapersTest(unittest.TestCase):
    def test_rates(self):
        steps = [(0, 0, (0, 6), 1, 0), (0, 0, (6, 0), 1, 0), (0, 1, (0, 5), 1, 0), (0, 1, (5, 0), 1, 0), (0, 1, (9, 9), 9, 0)]
        one = Part(2, steps[:4], [0], [1])
        other = Part(2, [(0, 0, (3, 3), 1, 0), (0, 1, (3, 3), 1, 0)], [0], [1])
        [(under, [[mix]])] = papers(one, other, "rates")
        self.assertEqual(under, [{(0, 6, 1): 1, (6, 0, 1): 1}])
        self.assertEqual(list(mix), [(0, 5, 1), (5, 0, 1)])
        good = [([{(0, 6, 1): 2, (6, 0, 1): 2}], [[{(5, 0, 1): 3, (0, 5, 1): 2}]])]
        self.assertTrue(are_papers(one, other, "rates", good))
        self.assertTrue(are_papers(one, other, "rates", turned(good)))
        under, row = {(0, 6, 1): 2, (6, 0, 1): 2}, {(5, 0, 1): 3, (0, 5, 1): 2}
        for wrong in [[], good * 2, [([], [[row]])], [([under, under], [[row]])], [([under], [])], [([under], [[]])],
                      [([under], [[row, row]])], [([under], [[row], []])], [([{}], [[row]])], [([under], [[{}]])],
                      [([{(0, 6, 1): 1, (6, 0, 1): 2}], [[row]])], [([under], [[{(5, 0, 1): 3, (0, 5, 1): 1}]])],
                      [([{(0, 6, 1): 1, (6, 0, 1): 0}], [[row]])], [([{(0, 6, 1): 1, (6, 0, 1): True}], [[row]])],
                      [([{(3, 3, 1): 1}], [[row]])], [([under], [[{(3, 3, 1): 1}]])], [([{(0, 6, True): 1, (6, 0, 1): 1}], [[row]])],
                      [([{(0, 6): 1, (6, 0): 1}], [[row]])], [([under], [[row]], 0)], [under, [[row]]], [([row], [[under]])],
                      [([None], [[row]])], [([under], [[None]])], [([under], None)], [(None, [[row]])], None, 7, "ab"]:
            self.assertIs(are_papers(one, other, "rates", wrong), False, wrong)

    def test_rates_by_1(self):
        one, other = [Part(2, [(0, 1, (first, 0), 1, 0)], [0], [1]) for first in (1, 0)]
        self.assertFalse(are_papers(one, other, "rates", [([], [[{(1, 0, 1): 1}]])]))
        self.assertTrue(are_papers(other, one, "rates", [([], [[{(0, 0, 1): 1}]])]))
        one, other = [Part(2, [(0, 0, (0, first), 1, 0)], [0], [1]) for first in (1, 0)]
        self.assertFalse(are_papers(one, other, "rates", [([{(0, 1, 1): 1}], [[]])]))
        self.assertTrue(are_papers(other, one, "rates", [([{(0, 0, 1): 1}], [[]])]))

    def test_three_rows_at_once(self):
        rows = [(0, 9, 2), (9, 0, 2), (0, 0, 11)]
        one = Part(2, [(0, 1, row[:2], row[2], 0) for row in rows], [0], [1])
        other = Part(2, [(0, 1, (4, 4), 5, 0)], [0], [1])
        found = papers(one, other, "rates")
        self.assertEqual(len(found[0][1][0][0]), 3)
        self.assertTrue(are_papers(one, other, "rates", found))
        self.assertFalse(never_worse(one, Part(2, [(0, 1, (2, 2), 5, 0)], [0], [1]), "rates"))
        # Of more rows, too.
        mix = {(0, 9, 2): 2, (9, 0, 2): 2, (0, 0, 11): 2, (1, 1, 5): 1}
        more = changed(one, (0, 1, (1, 1), 5, 0))
        self.assertTrue(are_papers(more, other, "rates", [([], [[mix]])]))

    def test_of_other_rows(self):
        # At the corners of one, not at those of other.
        one = Part(3, P_STEPS, [0], [2])
        other = Part(3, [P_STEPS[3], (0, 2, (4, 1), 3, 0)], [0], [2])
        found = papers(one, other, "rates")
        self.assertEqual(found, [([], [[{(0, 4, 1): 1}, {(2, 1, 2): 1}]])])
        self.assertIsNone(papers(changed(one, P_STEPS[1]), other, "rates"))

    def test_stocks(self):
        self.assertTrue(are_papers(V, V, "through", [[[0, 1, 2]]]))
        self.assertTrue(are_papers(V, V_LESS, "through", (((0, 2),),)))
        for wrong in [[[[0]]], [[[0, 2, 2]]], [[[0, 1]]], [[[1, 2]]], [[[0, 3]]], [[[0, -1]]], [[[False, 2]]], [[[0, None]]],
                      [[]], [], [[[0, 2]], []], [[[0, 2], []]], [[None]], [None], 0, None, [[[[0], 2]]]]:
            self.assertIs(are_papers(V, V_LESS, "through", wrong), False, wrong)
        self.assertTrue(are_papers(V, V, "on", [[[0, 1]]]))
        for wrong in [[[[0, None]]], [[[None, 1]]], [[[1, 1]]], [[[0]]], [[[0, 1, 1]]], [[[0, True]]], [[[0, 2]]], [[]]]:
            self.assertIs(are_papers(V, V, "on", wrong), False, wrong)
        # One can stay with 2 where other leaves with 2 or more: None, or a number, where there is one as good.
        stay = changed(V, (0, 0, (0, 0), 1, -2), (0, 1, (0, 0), 1, -2), (1, 1, (0, 0), 1, 0))
        self.assertEqual(form(stay, "on"), [(2, [[(1, -1)]])])
        self.assertEqual(papers(stay, V, "on"), [[[0, None]]])
        self.assertTrue(are_papers(stay, V, "on", [[[0, None]]]))
        self.assertFalse(are_papers(stay, V, "on", [[[0, 0]]]))
        self.assertFalse(are_papers(stay, V, "on", [[[None, None]]]))
        # The stays are asked for, too.
        never = Part(2, [(0, 1, (0, 0), 1, 0)], [0], [1])
        staying = changed(never, (0, 0, (0, 0), 1, -1), (0, 0, (0, 0), 1, 0))
        self.assertTrue(are_papers(staying, never, "on", [[[None]]]))
        self.assertFalse(are_papers(never, staying, "on", [[[]]]))
        self.assertTrue(are_papers(staying, staying, "on", [[[]]]))

    def test_costs(self):
        p = part_p()
        self.assertEqual(papers(Q, p, "budgets"), [[[(0, 4), (2, 1)]]])
        self.assertTrue(are_papers(Q, p, "budgets", [[[[0, 4], [2, 1]]]]))
        for wrong in [[[[(0, 4)]]], [[[(0, 4), (1, 3)]]], [[[(0, 4), (2, 0)]]], [[[(0, 4), (2, True)]]], [[[(0, 4), (2, 1), (2, 1)]]],
                      [[[(0, 4), {(2, 1): 1}]]], [[[(2, 1), (0, 4)]]], [[[(0, 4), None]]], [[]], [], None, [[[(0, 4), (2, 1, 0)]]]]:
            self.assertIs(are_papers(Q, p, "budgets", wrong), False, wrong)
        other = Part(2, [(0, 1, (1, 3), 1, 0)], [0], [1])
        self.assertTrue(are_papers(p, other, "prices", [[[{(0, 4): 1, (2, 1): 1}]]]))
        self.assertEqual(papers(p, other, "prices"), [[[{(0, 4): 1, (2, 1): 1}]]])
        self.assertTrue(are_papers(p, other, "prices", [[[{(2, 1): 2, (0, 4): 4}]]]))
        for wrong in [[[[{(0, 4): 2, (2, 1): 3}]]], [[[{(0, 4): 5, (2, 1): 2}]]], [[[{(1, 3): 1}]]], [[[{}]]], [[[(0, 4)]]], [[[]]],
                      [[[{(0, 4): 1, (2, True): 1}]]], [[[{(0, 4): 1, (2, 1): True}]]], [[[{(0, 4): 1, (2, 1): 0}]]]]:
            self.assertIs(are_papers(p, other, "prices", wrong), False, wrong)

    def test_any_object(self):
        for kind, one in [("rates", part_p()), ("through", V), ("on", V), ("budgets", part_p()), ("prices", Q)]:
            good = papers(one, one, kind)
            self.assertIs(are_papers(one, one, kind, good), True)
            for thing in objects() + [papers(V, V, "through") if kind not in ("through", "on") else papers(Q, Q, "prices")]:
                self.assertIs(are_papers(one, one, kind, thing), False, (kind, thing))

    def test_one_thing_otherwise(self):
        random = Random(107)
        for kind in KINDS:
            for _, one, other in pairs_of_parts(108, 30, kind):
                found = papers(one, other, kind)
                if found is None:
                    continue
                for wrong in [found + found[:1], found[1:], [[]] * len(found), [None] * len(found)]:
                    self.assertFalse(are_papers(one, other, kind, wrong))
                self.assertTrue(are_papers(one, other, kind, turned(found)))


if __name__ == "__main__":
    unittest.main()
