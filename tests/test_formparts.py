import unittest
from random import Random

from anyaround.errors import BadForm, BadKind
from anyaround.formparts import is_form, the_part
from anyaround.kinds import form
from anyaround.parts import Part

from tests.brute import objects, part_p
from tests.plain import KINDS, counting_rows, for_kind, random_part
from tests.test_everywhere import turned

ROWS = [(0, 3, 1), (1, 1, 1), (3, 0, 1)]
GOOD = {
    "rates": [[([(2, 0, 1)], [[(0, 4, 1), (2, 1, 2)]])], [([], [[]])], [(ROWS, [[], []]), ([], [[(0, 0, 1)], [(-3, 5, 2)]])],
              [([(-1, 0, 2), (0, -1, 3)], [[(-7, -7, 9)]])], [([], [[(0, 0, 2), (3, 3, 5)]])], [([(0, 0, 1)], [[(0, 0, 1)]])],
              [([], [[(-9, -9, 2), (9, 9, 1)]])], [([], [[(-9, 9, 1), (9, -9, 2)]])]],
    "through": [[[[]]], [[[(1, -1), (3, 2), (5, None)]]], [[[(0, 0)], []], [[(7, None)], [(7, -7), (8, -6)]]], [[[(0, None)]]]],
    "on": [[(None, [[]])], [(0, [[]])], [(5, [[(1, -1), (3, 2)]])], [(None, [[(1, -1), (30, 2)], []]), (2, [[(1, 9)], []])]],
    "budgets": [[[[]]], [[[(0, 4), (1, 3), (2, 1)]]], [[[(0, 0)], [(5, 0)]], [[], [(0, 2), (1, 1), (2, 0)]]]],
    "prices": [[[[]]], [[[(0, 4), (2, 1)]]], [[[(0, 5), (1, 2), (3, 0)]]]]}
WRONG = {
    "rates": [[], [([], [])], [([], [[]]), ([], [[], []])], [([(2, 0, 2)], [[]])], [([(0, 0, 0)], [[]])], [([(2, 0, -1)], [[]])],
              [(ROWS[::-1], [[]])], [(ROWS + [(4, 0, 1)], [[]])], [(ROWS[:2] + ROWS[1:], [[]])], [([(0, 3, 1), (2, 2, 1), (3, 0, 1)], [[]])],
              [([(0, 2, 1), (1, 1, 1), (2, 0, 1)], [[]])], [([(0, True, 1)], [[]])], [([(0, 3)], [[]])],
              [([(2, 0, 1)], [[(2, 1, 2), (0, 4, 1)]])], [([(2, 0, 1)], [[(0, 4, 1), (0, 4, 1)]])],
              [([(2, 0, 1)], [[(0, 4, 1), (2, 1, 2), (4, 1, 3)]])], [([], [[(0, 0, 2), (3, 3, 2)]])], [([(1, 1, 1)], [[(0, 0, 2), (3, 3, 5)]])],
              [([], [[(0, 0, 0)]])], [([], [[(0, 0, True)]])], [([], [[(0, 0)]])], [([], [[None]])], [([], [None])], [([], None)],
              [(None, [[]])], [([],)], [([], [[]], [])], [([], []), ([], [])], [[[]]], [(0, [[]])],
              [([], [[(0, 4, 1), (2, 2, 1), (4, 0, 1)]])]],
    "through": [[], [[]], [[[]], []], [[[], []], [[]]], [[[(3, 2), (1, -1)]]], [[[(1, -1), (1, 2)]]], [[[(1, -1), (3, -1)]]],
                [[[(1, -1), (3, -2)]]], [[[(1, -2)]]], [[[(-1, 5)]]], [[[(1, None), (3, 2)]]], [[[(1, None), (3, None)]]],
                [[[(None, 1)]]], [[[(1, True)]]], [[[(True, 1)]]], [[[(1,)]]], [[[(1, 2, 3)]]], [[[1, 2]]], [[None]], [None],
                [(5, [[]])], [[[(1, "1")]]]],
    "on": [[], [(None, [])], [(-1, [[]])], [(True, [[]])], [("0", [[]])], [(5, [[(5, 0)]])], [(5, [[(1, 0), (6, 2)]])],
           [(5, [[(1, None)]])], [(None, [[(1, None)]])], [(0, [[(0, 0)]])], [(5, [[(3, 2), (1, -1)]])], [[[]]], [(5,)],
           [(5, [[]], 0)], [(5, [[]]), (5, [[], []])], [(5, None)], [None], [(5, [None])], [([], [[]])], [(5, [[(1, -2)]])]],
    "budgets": [[], [[]], [[[]], []], [[[], []], [[]]], [[[(2, 1), (0, 4)]]], [[[(0, 4), (0, 4)]]], [[[(0, 4), (1, 4)]]],
                [[[(0, 4), (0, 3)]]], [[[(0, -1)]]], [[[(-1, 4)]]], [[[(0, True)]]], [[[(0, None)]]], [[[(0, 4, 1)]]], [[[0, 4]]],
                [[None]], [None], [[[(0, 4), (1, 5)]]]],
    "prices": [[], [[]], [[[(0, 4), (1, 3), (2, 1)]]], [[[(0, 4), (2, 2), (4, 0)]]], [[[(2, 1), (0, 4)]]], [[[(0, 4), (0, 4)]]],
               [[[(0, -1)]]], [[[(0, True)]]], [[[(0, 4, 1)]]], [[None]], [[[(0, 5), (2, 2), (3, 0)]]]]}


class FormTest(unittest.TestCase):
    def test_good(self):
        for kind in KINDS:
            for thing in GOOD[kind]:
                self.assertIs(is_form(thing, kind), True, (kind, thing))
                self.assertIs(is_form(turned(thing), kind), True)

    def test_wrong(self):
        for kind in KINDS:
            for thing in WRONG[kind] + objects():
                self.assertIs(is_form(thing, kind), False, (kind, thing))

    def test_other_kinds(self):
        for kind, other in [("rates", "through"), ("through", "rates"), ("on", "through"), ("budgets", "rates"),
                            ("through", "on"), ("prices", "on"), ("rates", "budgets")]:
            for thing in GOOD[kind]:
                self.assertFalse(is_form(thing, other) and thing != [[[]]])

    def test_of_parts(self):
        random = Random(141)
        for kind in KINDS:
            for _ in range(30):
                told = form(random_part(random, **for_kind(kind)), kind)
                self.assertIs(is_form(told, kind), True)
                self.assertFalse(is_form(told + [told[0] + [[]] if isinstance(told[0], list) else
                                                 (told[0][0], told[0][1] + [[]])], kind))

    def test_great_ones(self):
        pairs = [(k, 2000 - 3 * k) for k in range(300)]
        self.assertTrue(is_form([[pairs]] * 5, "budgets"))
        self.assertFalse(is_form([[pairs]], "prices"))
        bent = [(k * (k + 1) // 2, k * k - 200 * k + 10000) for k in range(100)]
        self.assertTrue(is_form([[bent]], "prices"))
        rows = [(k * k, (60 - k) * (60 - k), 1) for k in range(60)]
        self.assertTrue(is_form([(rows, [rows])], "rates"))
        self.assertTrue(is_form([([], [rows])], "rates"))
        self.assertFalse(is_form([([], [rows + [(3600, 3600, 1)]])], "rates"))
        stairs = [(3 * k, k * 10 ** 6) for k in range(500)]
        self.assertTrue(is_form([[stairs + [(10 ** 6, None)]]], "through"))

    def test_counting_as_searched(self):
        random = Random(142)
        both = {True: 0, False: 0}
        for _ in range(150):
            rows = sorted({(random.randint(-5, 5), random.randint(-5, 5), random.randint(1, 4))
                           for _ in range(random.choice([1, 2, 3, 4, 9]))})
            best = [random.choice([(1, 1, 1), (2, -1, 3), (0, 0, 1)])] if random.random() < 0.6 else []
            told = is_form([(best, [rows])], "rates")
            self.assertEqual(told, counting_rows(rows, best) == rows)
            both[told] += 1
        self.assertTrue(min(both.values()) > 20)

    def test_many_points(self):
        # Points on a bowl are least somewhere, each of them; those inside are nowhere.
        bowl = [(a, b, 40 - 6 * a - 7 * b + a * a + b * b + a * b) for a in range(-3, 4) for b in range(-3, 4)]
        low = min(row[2] for row in bowl)
        bowl = sorted((a, b, c - low + 1) for a, b, c in bowl)
        for best in [[], [(1, 1, 1)], [(0, 3, 1), (1, 1, 1), (3, 0, 1)], [(-1, 2, 2)]]:
            told = [row for row in bowl if row in counting_rows(bowl, best)]
            self.assertTrue(is_form([(best, [told])], "rates"))
            if len(told) < len(bowl):
                self.assertFalse(is_form([(best, [bowl])], "rates"))
            for row in told[::3]:
                worse = (row[0] + 1, row[1] + 1, row[2])
                if worse not in told:
                    self.assertFalse(is_form([(best, [sorted(told + [worse])])], "rates"))

    def test_bad_kind(self):
        for thing in objects():
            for call in (is_form, the_part):
                with self.assertRaises(BadKind) as caught:
                    call(None, thing)
                self.assertIs(caught.exception.kind, thing)


class PartTest(unittest.TestCase):
    def test_example(self):
        steps = [(0, 1, (0, 4), 1, 0), (0, 1, (2, 1), 2, 0), (0, 2, (0, 0), 1, 0), (2, 2, (2, 0), 1, 0)]
        self.assertEqual(the_part(form(part_p(), "rates"), "rates"), Part(3, steps, [0], [1]))
        self.assertEqual(the_part(form=[([], [[]])], kind="rates"), Part(2, [], [0], [1]))

    def test_as_written(self):
        told = the_part([(ROWS[:1], [[(1, 1, 1)], []]), ([], [[], [(2, 2, 2)]])], "rates")
        self.assertEqual(told, Part(5, [(0, 2, (1, 1), 1, 0), (1, 3, (2, 2), 2, 0), (0, 4, (0, 0), 1, 0), (4, 4, (0, 3), 1, 0)],
                                    [0, 1], [2, 3]))
        told = the_part([[[(1, -1), (3, None)], [(0, 0)]]], "through")
        plain = [(0, 3, -1), (3, 1, 0), (0, 4, -3), (4, 1, 0), (4, 4, 1), (0, 5, 0), (5, 2, 0)]
        self.assertEqual(told, Part(6, [(one, other, (0, 0), 1, change) for one, other, change in plain], [0], [1, 2]))
        told = the_part([(None, [[(2, 3)]]), (4, [[(1, -1)]]), (0, [[]])], "on")
        plain = [(0, 4, -2), (4, 3, 5), (1, 5, -4), (5, 5, 0), (1, 6, -1), (6, 3, 0), (2, 7, 0), (7, 7, 0)]
        self.assertEqual(told, Part(8, [(one, other, (0, 0), 1, change) for one, other, change in plain], [0, 1, 2], [3]))
        told = the_part([[[(0, 4), (2, 1)], []]], "budgets")
        self.assertEqual(told, Part(3, [(0, 1, (0, 4), 1, 0), (0, 1, (2, 1), 1, 0)], [0], [1, 2]))
        self.assertEqual(the_part([[[(0, 4), (2, 1)], []]], "prices"), told)

    def test_form_again(self):
        random = Random(143)
        for kind in KINDS:
            told = GOOD[kind] + [form(random_part(random, **for_kind(kind)), kind) for _ in range(30)]
            for one in told:
                self.assertEqual(form(the_part(one, kind), kind), one)
                self.assertEqual(the_part(turned(one), kind), the_part(one, kind))

    def test_bad_form(self):
        for kind in KINDS:
            for thing in WRONG[kind] + objects():
                with self.assertRaises(BadForm) as caught:
                    the_part(thing, kind)
                self.assertIs(caught.exception.thing, thing)


if __name__ == "__main__":
    unittest.main()
