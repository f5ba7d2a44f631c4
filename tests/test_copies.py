import unittest
from random import Random

from anyaround.copies import how_often, often, often_out
from anyaround.errors import BadForm, BadKind, BadMany, BadStock
from anyaround.formparts import is_form
from anyaround.kinds import form
from anyaround.nets import behind
from anyaround.putting import put_together

from tests.brute import non_integers, objects, part_p
from tests.plain import for_kind, random_part
from tests.test_everywhere import same, turned
from tests.test_formparts import WRONG
from tests.test_putting import BEHIND
from tests.test_stairs import by_stairs

KINDS = ["rates", "through", "on", "prices"]
G = [[[(1, -1), (4, 1), (9, None)]]]
F = [([(2, 0, 1)], [[(0, 4, 1), (2, 1, 2)]])]
GREAT = 10 ** 30


def random_stairs(random, below=None, endless=True):
    """Stairs, perhaps with needs below some number only."""
    found = []
    for need in sorted(random.sample(range(30), random.randint(0, 5))):
        if below is None or need < below:
            least = max(-need, found[-1][1] + 1) if found else -need
            found.append((need, random.randint(least, least + 6)))
    if endless and found and random.random() < 0.3:
        found[-1] = (found[-1][0], None)
    return found


def random_form(random, kind):
    if kind == "through":
        return [[random_stairs(random)]]
    if kind == "on":
        stay = random.choice([None, random.randint(0, 30)])
        return [(stay, [random_stairs(random, stay, False)])]
    return form(random_part(random, 1, 1, **for_kind(kind)), kind)


class OftenTest(unittest.TestCase):
    def test_examples(self):
        self.assertEqual(often(F, "rates", 10), [([(2, 0, 1)], [[(0, 40, 10), (20, 10, 20)]])])
        self.assertEqual(often(G, "through", 2), [[[(2, -2), (4, 2), (8, None)]]])
        self.assertEqual(often(form=[(6, [[(1, -1), (4, 1)]])], kind="on", many=2), [(5, [[(2, -2), (4, 2)]])])
        self.assertEqual(often([[[(0, 4), (2, 1)]]], "prices", GREAT), [[[(0, 4 * GREAT), (2 * GREAT, GREAT)]]])

    def test_put_together(self):
        random = Random(161)
        for kind in KINDS:
            for _ in range(40):
                one = random_form(random, kind)
                self.assertTrue(same(often(one, kind, 1), one))
                self.assertEqual(often(turned(one), kind, 3), often(one, kind, 3))
                chain = one
                for many in range(2, 7):
                    chain = put_together([chain, one], kind, *BEHIND)
                    self.assertEqual(often(one, kind, many), chain)
                m, n = random.randint(1, 40), random.randint(1, 40)
                self.assertEqual(often(often(one, kind, m), kind, n), often(one, kind, m * n))
                m, n = random.randint(1, GREAT), random.randint(1, GREAT)
                told = often(one, kind, m + n)
                self.assertEqual(told, put_together([often(one, kind, m), often(one, kind, n)], kind, *BEHIND))
                self.assertTrue(is_form(told, kind))

    def test_of_parts(self):
        random = Random(162)
        for kind in KINDS:
            for _ in range(15):
                part = random_part(random, 1, 1, **for_kind(kind))
                chain = behind(behind(part, part), part)
                self.assertEqual(often(form(part, kind), kind, 3), form(chain, kind))

    def test_stairs(self):
        self.assertEqual(often([[[(3, -3)]]], "through", GREAT), [[[(3 * GREAT, -3 * GREAT)]]])
        self.assertEqual(often([[[(3, 2)]]], "through", GREAT), [[[(3, 2 * GREAT)]]])
        self.assertEqual(often([[[(3, 0)]]], "through", GREAT), [[[(3, 0)]]])
        self.assertEqual(often([[[(3, None)]]], "through", GREAT), [[[(3, None)]]])
        self.assertEqual(often([[[]]], "through", GREAT), [[[]]])
        self.assertEqual(often([[[(1, -1), (7, None)]]], "through", 3), [[[(3, -3), (7, None)]]])
        self.assertEqual(often([(3, [[(1, 2)]])], "on", 2), [(1, [[]])])
        self.assertEqual(often([(40, [[(1, 2)]])], "on", 9), [(24, [[(1, 18)]])])
        self.assertEqual(often([(3, [[]])], "on", GREAT), [(3, [[]])])
        self.assertEqual(often([(None, [[(1, 2)]])], "on", GREAT), [(None, [[(1, 2 * GREAT)]])])

    def test_no_more_pairs_than_needs(self):
        random = Random(163)
        for _ in range(25):
            pairs = random_stairs(random)
            for many in (2, 3, 5, 17, 1000, GREAT):
                most = max([0] + [pair[0] for pair in pairs])
                self.assertLessEqual(len(often([[pairs]], "through", many)[0][0]), most + 1)
        pairs = [(k, k - 60) for k in range(60, 101)]
        self.assertTrue(is_form(often([[pairs]], "through", GREAT), "through"))

    def test_errors(self):
        for thing in objects() + ["budgets"]:
            with self.assertRaises(BadKind) as caught:
                often(None, thing, None)
            self.assertIs(caught.exception.kind, thing)
        two = {"rates": [F + F, [([], [[], []])]], "through": [G + G, [[[], []]]], "on": [[(None, [[], []])]],
               "prices": [[[[], []]], [[[]], [[]]]]}
        for kind in KINDS:
            for thing in objects() + WRONG[kind] + two[kind]:
                with self.assertRaises(BadForm) as caught:
                    often(thing, kind, None)
                self.assertIs(caught.exception.thing, thing)
        for thing in [0, -1] + non_integers():
            with self.assertRaises(BadMany) as caught:
                often(G, "through", thing)
            self.assertIs(caught.exception.many, thing)


class StockTest(unittest.TestCase):
    def test_examples(self):
        self.assertEqual([often_out(G, 5, 4), often_out(G, 6, 4), often_out(G, 2, 1)], [9, None, -1])
        self.assertEqual([how_often(G, 3), how_often(G, 4), how_often(G, 0), how_often(G, 8)], [3, None, 0, None])
        self.assertEqual(often_out(form=G, many=1, stock=0), -1)
        self.assertEqual(how_often(form=[[[(2, -1)]]], stock=10 ** 40), 10 ** 40 - 1)
        self.assertEqual(often_out([[[(2, -1)]]], GREAT, 10 ** 40), 10 ** 40 - GREAT)
        self.assertEqual(often_out([[[(2, -2), (10 ** 39, -1)]]], GREAT, 10 ** 40), 10 ** 40 - GREAT)
        self.assertEqual(often_out([[[(0, 0), (5, 3)]]], GREAT, 4), 4)
        self.assertEqual(often_out([[[(0, 0), (5, 3)]]], GREAT, 5), 5 + 3 * GREAT)
        self.assertEqual(how_often([[[(0, 0)]]], 0), None)
        self.assertEqual(how_often([[[]]], 10 ** 40), 0)

    def test_as_stairs_tell(self):
        random = Random(164)
        for _ in range(60):
            one = [[random_stairs(random)]]
            needs = [pair[0] for pair in one[0][0]]
            stocks = {0, 1, 5, 40, 10 ** 9} | {need + k for need in needs for k in (-1, 0, 1) if need + k >= 0}
            for many in list(range(1, 9)) + [60, GREAT]:
                told = often(one, "through", many)[0][0]
                for stock in stocks:
                    out = often_out(one, many, stock)
                    self.assertEqual(out, by_stairs(told, stock))
                    times = how_often(one, stock)
                    self.assertEqual(out == -1, times is not None and times < many)
                    self.assertEqual(how_often(turned(one), stock), times)

    def test_step_by_step(self):
        random = Random(165)
        for _ in range(60):
            pairs = random_stairs(random)
            for stock in (0, 3, 12, 29):
                now, many = stock, 0
                while now is not None and now >= 0 and many < 40:
                    now, many = by_stairs(pairs, now), many + 1
                    self.assertEqual(often_out([[pairs]], many, stock), now)
                times = how_often([[pairs]], stock)
                self.assertEqual(times, many - 1 if now == -1 else None)

    def test_great_forms(self):
        # Far more pairs than there could be written down of many parts.
        pairs = [(k * 1000, k - 7) for k in range(1, 13)]
        self.assertEqual(often_out([[pairs]], GREAT, 12500), 12500 + 5 * GREAT)
        self.assertEqual(how_often([[pairs]], 7000 - 1), 1000 + 500 + 334 + 250 + 200 + 167)
        self.assertEqual(often_out([[pairs]], 10 ** 6, 7500), 7500)

    def test_errors(self):
        for thing in objects() + WRONG["through"] + [G + G, [[[], []]], F]:
            for call in [lambda: often_out(thing, None, None), lambda: how_often(thing, None)]:
                with self.assertRaises(BadForm) as caught:
                    call()
                self.assertIs(caught.exception.thing, thing)
        for thing in [0, -1] + non_integers():
            with self.assertRaises(BadMany) as caught:
                often_out(G, thing, None)
            self.assertIs(caught.exception.many, thing)
        for thing in [-1] + non_integers():
            for call in [lambda: often_out(G, 1, thing), lambda: how_often(G, thing)]:
                with self.assertRaises(BadStock) as caught:
                    call()
                self.assertIs(caught.exception.stock, thing)
        self.assertEqual(often(form(part_p(), "prices"), "prices", 2), [[[(0, 8), (4, 2)]]])


if __name__ == "__main__":
    unittest.main()
