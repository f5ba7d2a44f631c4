import unittest
from random import Random

from anyaround.copies import often
from anyaround.errors import BadForm, BadForms, BadIns, BadKind, BadLinks, BadOuts, BadSurrounding
from anyaround.kinds import form, worth_in
from anyaround.nets import wired
from anyaround.putting import put_together, worth_by

from tests.brute import non_lists, objects, part_p
from tests.plain import KINDS, for_kind, random_part, random_surrounding
from tests.test_everywhere import same, turned
from tests.test_formparts import GOOD, WRONG
from tests.test_nets import A, B, random_net, small_part

BEHIND = [(0, 0, 1, 0)], [[(0, 0)]], [[(1, 0)]]


class PutTest(unittest.TestCase):
    def test_example(self):
        self.assertEqual(put_together([form(A, "rates"), form(B, "rates")], "rates", *BEHIND), [([(0, 1, 1)], [[(1, 2, 2)]])])
        self.assertEqual(put_together(forms=[form(A, "budgets")], kind="budgets", links=[], ins=[[(0, 0)]], outs=[[(0, 0)]]),
                         [[[(1, 0)]]])

    def test_form_of_the_whole(self):
        for kind in KINDS:
            random = Random(151)
            for _ in range(25):
                parts = [small_part(random, kind) for _ in range(random.randint(1, 3))]
                parts += parts[:random.randint(0, 1)]
                net = random_net(random, parts)
                forms = [form(part, kind) for part in parts]
                told = put_together(forms, kind, *net)
                self.assertTrue(same(told, form(wired(parts, *net), kind)))
                self.assertEqual(put_together(turned(forms), kind, *turned(list(net))), told)
                told.clear()
                self.assertTrue(put_together(forms, kind, *net))

    def test_great_forms(self):
        pairs = [(k, k * k) for k in range(101)]
        many = 10 ** 30
        one = often([[pairs[:30]]], "through", many)
        both = put_together([one, one], "through", *BEHIND)
        self.assertEqual(both, often([[pairs[:30]]], "through", 2 * many))
        put_together([[[pairs]], [[pairs]]], "through", *BEHIND)
        down = [(k, (50 - k) * (50 - k)) for k in range(50)]
        self.assertEqual(put_together([[[down]], [[down]]], "prices", *BEHIND), [[[(2 * a, 2 * b) for a, b in down]]])
        rows = [(a, b, 1 + a % 3) for a, b in down[::4]]
        put_together([[([], [rows])], [([(1, 1, 1)], [rows[:1]])]], "rates", *BEHIND)

    def test_bad_forms(self):
        for kind in KINDS:
            good = GOOD[kind][0]
            for thing in non_lists() + [[], ()]:
                with self.assertRaises(BadForms) as caught:
                    put_together(thing, kind, None, None, None)
                self.assertEqual(caught.exception.index, 0)
            for thing in WRONG[kind] + objects():
                with self.assertRaises(BadForms) as caught:
                    put_together([good, good, thing, thing], kind, None, None, None)
                self.assertEqual(caught.exception.index, 2)

    def test_bad_nets(self):
        forms = [form(A, "rates"), form(B, "rates")]
        for links, index in [([(0, 0, 1, 0), (0, 1, 1, 0)], 1), ([(2, 0, 0, 0)], 0), (None, 0), ([(0, 0, 1, 0)] * 2, 1)]:
            with self.assertRaises(BadLinks) as caught:
                put_together(forms, "rates", links, None, None)
            self.assertEqual(caught.exception.index, index)
        for lists, index in [(None, 0), ([], 0), ([[(0, 0)], []], 1), ([[(0, 0), (0, 0)]], 0), ([[(0, 1)]], 0), ([[(2, 0)]], 0)]:
            with self.assertRaises(BadIns) as caught:
                put_together(forms, "rates", [], lists, None)
            self.assertEqual(caught.exception.index, index)
            with self.assertRaises(BadOuts) as caught:
                put_together(forms, "rates", [], [[(0, 0)]], lists)
            self.assertEqual(caught.exception.index, index)

    def test_bad_kind(self):
        for thing in objects():
            for call in [lambda: put_together(None, thing, None, None, None), lambda: worth_by(None, thing, None)]:
                with self.assertRaises(BadKind) as caught:
                    call()
                self.assertIs(caught.exception.kind, thing)


class WorthTest(unittest.TestCase):
    def test_worth_in(self):
        self.assertEqual(worth_by(form(part_p(), "rates"), "rates", (0, [(0, 0, (0, 0), 1, 0)], (1, 1))), (1, 1))
        for kind in KINDS:
            random = Random(152)
            for _ in range(30):
                part = random_part(random, **for_kind(kind))
                for _ in range(5):
                    around = random_surrounding(random, kind, len(part.ins()), len(part.outs()), ways=3)
                    self.assertEqual(worth_by(form=form(part, kind), kind=kind, surrounding=around),
                                     worth_in(part, kind, around))

    def test_errors(self):
        for kind in KINDS:
            for thing in WRONG[kind] + objects():
                with self.assertRaises(BadForm) as caught:
                    worth_by(thing, kind, None)
                self.assertIs(caught.exception.thing, thing)
            for thing in objects() + [(1, 0, 1, 1), (1, [], (1, 1)), (0, [(0, 1, (0, 0), 1, 0)], (1, 1)), (0, 1, (1, 1)),
                                      (0, [], [(1, 0)], 1)]:
                with self.assertRaises(BadSurrounding) as caught:
                    worth_by(GOOD[kind][1] if kind != "on" else GOOD["on"][2], kind, thing)
                self.assertIs(caught.exception.surrounding, thing)


if __name__ == "__main__":
    unittest.main()
