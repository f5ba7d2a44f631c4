"""Promises [19.1] to [19.4]: which kinds see more."""

import unittest
from random import Random

from anyaround.errors import BadForm, BadKind, Unseen
from anyaround.formparts import the_part
from anyaround.houses import House
from anyaround.kinds import alike, form
from anyaround.nets import wired
from anyaround.parts import Part
from anyaround.putting import put_together
from anyaround.seeing import is_unseen, pair_unseen, seen_form, sees

from tests.brute import P_STEPS, objects, part_p
from tests.plain import KINDS, for_kind, random_part
from tests.plain_programs import turned

Q = Part(3, P_STEPS + [(0, 2, (1, 3), 2, 0)], [0], [2])
SEEN = [(kind, kind) for kind in KINDS] + [("budgets", "prices"), ("rates", "prices")]
PAIRS = [(kind, other) for kind in KINDS for other in KINDS]
P_FORM = [([(2, 0, 1)], [[(0, 4, 1), (2, 1, 2)]])]


class SeesTest(unittest.TestCase):
    def test_all_pairs(self):
        for kind, other in PAIRS:
            self.assertIs(sees(kind, other), (kind, other) in SEEN)
            pair = pair_unseen(kind, other)
            self.assertEqual(pair is None, sees(kind, other))
            if pair is not None:
                self.assertIs(type(pair), tuple)
                self.assertEqual(len(pair), 2)
                for part in pair:
                    self.assertEqual((len(part.ins()), len(part.outs())), (1, 1))
                    self.assertLessEqual(len(part.web().steps()), 3)
                    self.assertTrue(all(min(step[2]) >= 0 for step in part.web().steps()))
                self.assertTrue(alike(*pair, kind))
                self.assertFalse(alike(*pair, other))
                self.assertIs(is_unseen(kind, other, pair), True)
                self.assertIs(is_unseen(kind, other, [pair[1], pair[0]]), True)
                self.assertEqual(pair_unseen(kind, other), pair)

    def test_alike_by_what_sees(self):
        random = Random(101)
        for _ in range(120):
            one, other = [random_part(random, 1, 1, below=False, places=3, amount=2, ticks=2, steps=5) for _ in range(2)]
            for kind, seen in SEEN:
                if alike(one, other, kind):
                    self.assertTrue(alike(one, other, seen))

    def test_bad_kind(self):
        for kind in ("rate", "", None, 1, True, ["rates"], ("rates",), {}, len, part_p()):
            for call in (lambda: sees(kind, 7), lambda: pair_unseen(kind, 7), lambda: is_unseen(kind, 7, None),
                         lambda: seen_form(None, kind, 7), lambda: sees("on", kind), lambda: pair_unseen("on", kind),
                         lambda: is_unseen("on", kind, None), lambda: seen_form(None, "on", kind)):
                with self.assertRaises(BadKind) as caught:
                    call()
                self.assertIs(caught.exception.kind, kind)


class UnseenTest(unittest.TestCase):
    def test_pairs_of_other_kinds(self):
        pairs = [pair_unseen(kind, other) for kind, other in PAIRS if (kind, other) not in SEEN] + [(part_p(), Q), (Q, Q)]
        for kind, other in PAIRS:
            for one, more in pairs:
                self.assertIs(is_unseen(kind, other, (one, more)), alike(one, more, kind) and not alike(one, more, other))

    def test_whatever_parts(self):
        random = Random(102)
        wide = [random_part(random, 2, 2, places=4, amount=1, ticks=1, change=1, steps=4) for _ in range(40)]
        for one, other in zip(wide, wide[1:]):
            for kind, seen in PAIRS:
                below = any(min(step[2]) < 0 for part in (one, other) for step in part.web().steps())
                if {kind, seen} & {"budgets", "prices"} and below:
                    self.assertIs(is_unseen(kind, seen, (one, other)), False)
                else:
                    self.assertIs(is_unseen(kind, seen, (one, other)), alike(one, other, kind)
                                  and not alike(one, other, seen))

    def test_refused(self):
        below = Part(2, [(0, 1, (-1, 2), 1, 0)], [0], [1])
        changed = Part(2, [(0, 1, (-1, 2), 1, 1)], [0], [1])
        self.assertTrue(is_unseen("rates", "on", (below, changed)))
        self.assertFalse(is_unseen("prices", "on", (below, changed)))
        self.assertFalse(is_unseen("rates", "prices", (below, changed)))
        two = Part(3, [(0, 1, (0, 0), 1, 0)], [0], [1, 2])
        self.assertFalse(is_unseen("rates", "on", (below, two)))
        self.assertFalse(is_unseen("on", "through", (two, below)))

    def test_any_object(self):
        for thing in objects() + [(part_p(),), (part_p(), Q, Q), (part_p(), Q.web()), {0: part_p(), 1: Q}, House(),
                                  (part_p(), House()), [None, None], "ab"]:
            for kind, other in PAIRS:
                self.assertIs(is_unseen(kind, other, thing), False)


class SeenFormTest(unittest.TestCase):
    def test_of_parts(self):
        random = Random(103)
        for kind, other in SEEN:
            for _ in range(60):
                part = random_part(random, **{**for_kind(kind), "below": False})
                told = form(part, kind)
                self.assertEqual(seen_form(turned(told), kind, other), form(part, other))
                self.assertEqual(seen_form(form(the_part(told, kind), kind), kind, other), form(part, other))
            if other != "prices":
                part = random_part(random, **for_kind(kind))
                self.assertEqual(seen_form(form(part, kind), kind, other), form(part, kind))

    def test_put_together(self):
        random = Random(104)
        for kind, other in (("budgets", "prices"), ("rates", "prices")):
            for _ in range(30):
                parts = [random_part(random, 1, 1, below=False, places=3, steps=5) for _ in range(2)]
                net = ([(0, 0, 1, 0), (1, 0, 0, 0)], [[(0, 0)], [(0, 0), (1, 0)]], [[(1, 0)], [(0, 0)]])
                forms = [form(part, kind) for part in parts]
                seen = put_together([seen_form(one, kind, other) for one in forms], other, *net)
                self.assertEqual(seen_form(put_together(forms, kind, *net), kind, other), seen)
                self.assertEqual(seen, form(wired(parts, *net), other))

    def test_example(self):
        self.assertEqual(seen_form(P_FORM, "rates", "prices"), [[[(0, 4), (2, 1)]]])
        more = [([(2, 0, 1)], [[(0, 4, 1), (2, 1, 2), (3, 1, 1)]])]
        self.assertEqual(seen_form(more, "rates", "prices"), [[[(0, 4), (2, 1)]]])
        self.assertEqual(seen_form([[[(0, 4), (1, 3), (2, 1)], []]], "budgets", "prices"), [[[(0, 4), (2, 1)], []]])
        told = seen_form(P_FORM, "rates", "rates")
        told[0][1][0].clear()
        self.assertEqual(seen_form(P_FORM, "rates", "rates"), P_FORM)

    def test_errors(self):
        for kind, other in PAIRS:
            if (kind, other) not in SEEN:
                for thing in (None, P_FORM, 3):
                    with self.assertRaises(Unseen):
                        seen_form(thing, kind, other)
        below = [[([(-2, 0, 1)], [[]])], [([(0, -1, 1)], [[(1, 1, 1)]])], [([], [[(0, -4, 1)]])], [([], [[]]), ([], [[(-1, 0, 1)]])]]
        for thing in objects() + [[[]], [[[(1, 1), (2, 2)]]], [([], 3)]] + below:
            for kind, other in (("rates", "prices"), ("budgets", "prices"), ("prices", "prices"), ("budgets", "budgets")):
                with self.assertRaises(BadForm) as caught:
                    seen_form(thing, kind, other)
                self.assertIs(caught.exception.thing, thing)
        for thing in below:
            self.assertEqual(seen_form(thing, "rates", "rates"), thing)


if __name__ == "__main__":
    unittest.main()
