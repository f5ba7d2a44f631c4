import unittest
from fractions import Fraction
from random import Random

from anyaround.errors import BadForm, BadFraction, BadMany, BadPrices, BadSurrounding, TooGreat
from anyaround.kinds import form, worth_in
from anyaround.longchains import often_costs, often_worth
from anyaround.nets import behind
from anyaround.parts import Part

from tests.brute import cost, non_integers, objects
from tests.plain import for_kind, random_part, random_surrounding
from tests.test_copies import F, GREAT
from tests.test_everywhere import turned
from tests.test_formparts import WRONG

ROUND = (0, 0, (0, 0), 1, 0)


def lowest(rate):
    found = Fraction(*rate)
    return found.numerator, found.denominator


def together(one, other):
    """Least costs of chains behind one another."""
    many = len(one)
    return [[min((one[i][k] + other[k][j] for k in range(many) if one[i][k] is not None and other[k][j] is not None),
                 default=None) for j in range(many)] for i in range(many)]


def plain_costs(told, prices, rate):
    top, bottom = lowest(rate)
    return [[min((bottom * cost(prices, row) - top * row[2] for row in rows), default=None) for rows in passes]
            for _, passes in told]


class CostsTest(unittest.TestCase):
    def test_example(self):
        self.assertEqual(often_costs(F, 3, (1, 1), (1, 1)), [[3]])
        self.assertEqual(often_costs(F, 3, (1, 1), (2, 2)), [[3]])
        self.assertEqual(often_costs(form=F, many=GREAT, prices=(2, 2), rate=(-7, 2)), [[(2 * 8 + 7) * GREAT]])

    def test_by_one_after_another(self):
        random = Random(171)
        tried = {True: 0, False: 0}
        for _ in range(120):
            doors = random.randint(1, 2)
            one = form(random_part(random, doors, doors, **for_kind("rates")), "rates")
            prices = (random.randint(1, 5), random.randint(1, 5))
            rate = (random.randint(-20, 20), random.randint(1, 5))
            rows = [row for of_door, _ in one for row in of_door]
            dear = all(Fraction(cost(prices, row), row[2]) > Fraction(*rate) for row in rows)
            tried[dear] += 1
            if not dear:
                with self.assertRaises(TooGreat) as caught:
                    often_costs(one, 3, prices, rate)
                self.assertIs(caught.exception.rate, rate)
                continue
            chain = first = plain_costs(one, prices, rate)
            for many in range(1, 6):
                self.assertEqual(often_costs(one, many, prices, rate), chain)
                chain = together(chain, first)
            m, n = random.randint(1, GREAT), random.randint(1, GREAT)
            self.assertEqual(often_costs(one, m + n, prices, rate),
                             together(often_costs(one, m, prices, rate), often_costs(turned(one), n, prices, rate)))
        self.assertTrue(min(tried.values()) > 10)

    def test_several_doors(self):
        part = Part(4, [(0, 2, (1, 0), 1, 0), (0, 3, (5, 0), 1, 0), (1, 2, (0, 2), 2, 0)], [0, 1], [2, 3])
        one = form(part, "rates")
        self.assertEqual(often_costs(one, 1, (1, 1), (0, 1)), [[1, 5], [2, None]])
        self.assertEqual(often_costs(one, 2, (1, 1), (0, 1)), [[2, 6], [3, 7]])
        empty = form(Part(4, [(0, 2, (1, 0), 1, 0)], [0, 1], [2, 3]), "rates")
        self.assertEqual(often_costs(empty, GREAT, (1, 1), (0, 1)), [[GREAT, None], [None, None]])

    def test_too_great(self):
        for rate in [(2, 1), (4, 2), (3, 1), (1000, 3)]:
            with self.assertRaises(TooGreat) as caught:
                often_costs(F, 2, (1, 1), rate)
            self.assertIs(caught.exception.rate, rate)
        often_costs(F, 2, (1, 1), (199, 100))
        often_costs(F, 2, (2, 1), (399, 100))
        self.assertRaises(TooGreat, often_costs, F, 2, (2, 1), (4, 1))
        # At an in door to which no chain comes, too.
        lone = [([], [[(1, 1, 1)], []]), ([(0, 0, 1)], [[], []])]
        self.assertRaises(TooGreat, often_costs, lone, 2, (1, 1), (0, 1))
        self.assertEqual(often_costs(lone, 2, (1, 1), (-1, 2)), [[10, None], [None, None]])

    def test_errors(self):
        for thing in objects() + WRONG["rates"] + [[([], [[], []])], [([], [[]]), ([], [[]])]]:
            with self.assertRaises(BadForm) as caught:
                often_costs(thing, None, None, None)
            self.assertIs(caught.exception.thing, thing)
        for thing in [0, -1] + non_integers():
            with self.assertRaises(BadMany):
                often_costs(F, thing, None, None)
        for thing in [None, (0, 1), (1,), (1, True), "11"]:
            with self.assertRaises(BadPrices) as caught:
                often_costs(F, 1, thing, None)
            self.assertIs(caught.exception.thing, thing)
        for thing in [None, (1, 0), (1, -1), (9,), (True, 1), 9]:
            with self.assertRaises(BadFraction) as caught:
                often_costs(F, 1, (1, 1), thing)
            self.assertIs(caught.exception.thing, thing)


class WorthTest(unittest.TestCase):
    def test_example(self):
        self.assertEqual(often_worth(F, 2, (0, [ROUND], (1, 1))), (6, 5))
        self.assertEqual(often_worth(form=F, many=2, surrounding=(0, [], (1, 1))), (2, 1))
        self.assertIsNone(often_worth([([], [[(1, 1, 1)]])], GREAT, (0, [], (1, 1))))
        self.assertEqual(often_worth([([], [[(1, 1, 1)]])], GREAT, (0, [ROUND], (1, 1))), (2 * GREAT, GREAT + 1))

    def test_of_wired_chains(self):
        random = Random(172)
        for _ in range(60):
            doors = random.randint(1, 2)
            part = random_part(random, doors, doors, **for_kind("rates"))
            one = form(part, "rates")
            chain = part
            for many in range(1, 5):
                for _ in range(3):
                    around = random_surrounding(random, "rates", doors, doors, ways=4)
                    self.assertEqual(often_worth(one, many, around), worth_in(chain, "rates", around))
                    self.assertEqual(often_worth(turned(one), many, turned(around)), often_worth(one, many, around))
                chain = behind(chain, part)

    def test_very_many(self):
        # Just the in doors that can be come to count, at just the places of the chain where they are.
        part = Part(5, [(0, 3, (1, 1), 1, 0), (1, 2, (5, 5), 1, 0), (1, 4, (0, 0), 1, 0), (4, 4, (9, 9), 1, 0)], [0, 1], [2, 3])
        one = form(part, "rates")
        self.assertIsNone(often_worth(one, 1, (0, [], (1, 1))))
        self.assertEqual(often_worth(one, 2, (0, [], (1, 1))), (18, 1))
        self.assertEqual(often_worth(one, GREAT, (0, [], (1, 1))), (18, 1))
        # Two parts cost 12 in two ticks; a way back leads from out door 0 to in door 0.
        self.assertEqual(often_worth(one, GREAT, (0, [(0, 0, (-3, 0), 1, 0)], (1, 1))),
                         lowest((6 * GREAT - 3, GREAT + 1)))
        self.assertEqual(often_worth(one, GREAT + 1, (0, [(0, 0, (0, 0), 1, 0)], (1, 1))), (18, 1))
        self.assertEqual(often_worth(one, GREAT + 1, (0, [(1, 0, (0, 0), 1, 0)], (1, 1))),
                         lowest((6 * GREAT + 2, GREAT + 2)))

    def test_three_doors(self):
        # From door to door, a part further each time: the ring in the third one is come to behind two parts.
        part = Part(7, [(0, 4, (1, 1), 1, 0), (1, 5, (2, 2), 1, 0), (2, 3, (3, 3), 1, 0), (2, 6, (0, 0), 1, 0),
                        (6, 6, (5, 5), 1, 0)], [0, 1, 2], [3, 4, 5])
        one = form(part, "rates")
        self.assertEqual([often_worth(one, many, (0, [], (1, 1))) for many in (1, 2, 3, GREAT)], [None, None, (10, 1), (10, 1)])
        self.assertEqual(often_worth(one, 2, (1, [], (1, 1))), (10, 1))
        self.assertEqual(often_costs(one, 3, (1, 1), (0, 1)), [[12, None, None], [None, 12, None], [None, None, 12]])
        chain = part
        for many in range(1, 6):
            for door in range(3):
                for ways in [[], [(0, 0, (0, 0), 1, 0)], [(1, 2, (-2, 0), 2, 0)], [(2, 0, (0, 1), 1, 0), (0, 1, (0, 0), 3, 0)]]:
                    around = (door, ways, (1, 1))
                    self.assertEqual(often_worth(one, many, around), worth_in(chain, "rates", around))
            chain = behind(chain, part)

    def test_many_and_more(self):
        random = Random(173)
        for _ in range(20):
            part = random_part(random, 2, 2, **for_kind("rates"))
            one, two = form(part, "rates"), form(behind(part, part), "rates")
            around = random_surrounding(random, "rates", 2, 2, ways=3)
            self.assertEqual(often_worth(one, 2 * GREAT, around), often_worth(two, GREAT, around))

    def test_errors(self):
        for thing in objects() + WRONG["rates"] + [[([], [[], []])]]:
            with self.assertRaises(BadForm) as caught:
                often_worth(thing, None, None)
            self.assertIs(caught.exception.thing, thing)
        for thing in [0, -1] + non_integers():
            with self.assertRaises(BadMany):
                often_worth(F, thing, None)
        for thing in objects() + [(1, [], (1, 1)), (0, [ROUND, ROUND], (1, 1)), (0, [(0, 1, (0, 0), 1, 0)], (1, 1)),
                                  (0, [], (0, 1)), (0, [])]:
            with self.assertRaises(BadSurrounding) as caught:
                often_worth(F, 2, thing)
            self.assertIs(caught.exception.surrounding, thing)


if __name__ == "__main__":
    unittest.main()
