import unittest
from itertools import product
from random import Random

from anyaround.errors import BadAnswer, BadGain, BadMost
from anyaround.formparts import is_form
from anyaround.kinds import form, worth_in
from anyaround.learning import learned_stairs

from tests.brute import non_integers, objects
from tests.plain import random_part
from tests.test_stairs import by_stairs


def power_for(number):
    """The least number whose power of 2 is at least a number."""
    found = 0
    while 2 ** found < number:
        found += 1
    return found


def all_stairs(most, gain):
    """All stairs with needs to most and gains from -most to gain, but for the last one."""
    found = [[]]
    todo = [[]]
    while todo:
        pairs = todo.pop()
        for need in range(pairs[-1][0] + 1 if pairs else 0, most + 1):
            least = max(-need, pairs[-1][1] + 1) if pairs else -need
            for more in range(least, gain + 1):
                found.append(pairs + [(need, more)])
                todo.append(found[-1])
            found.append(pairs + [(need, None)])
    return found


def answers(pairs, stock, wanted):
    most = by_stairs(pairs, stock)
    return most is None or most >= wanted


class LearningTest(unittest.TestCase):
    def asked_of(self, answer, most, gain):
        """What is learned, and what was asked, with the answers."""
        log = {}

        def box(stock, wanted):
            self.assertTrue(type(stock) is int and type(wanted) is int)
            self.assertTrue(0 <= stock <= most and wanted >= 0)
            self.assertNotIn((stock, wanted), log)
            log[stock, wanted] = answer(stock, wanted)
            return log[stock, wanted]

        told = learned_stairs(box, most, gain)
        many = len(told)
        self.assertLessEqual(len(log), (many + 1) * power_for(most + 2) + many * power_for(most + gain + 2))
        self.assertTrue(is_form([[told]], "through") and type(told) is list)
        self.assertTrue(all(need <= most and (more is None or more <= gain) for need, more in told))
        for (stock, wanted), said in log.items():
            self.assertEqual(answers(told, stock, wanted), said)
        return told, log

    def test_example(self):
        told, log = self.asked_of(lambda stock, wanted: answers([(1, -1), (4, 1)], stock, wanted), 8, 3)
        self.assertEqual(told, [(1, -1), (4, 1)])
        self.assertLessEqual(len(log), 3 * 4 + 2 * 4)
        self.assertEqual(self.asked_of(lambda stock, wanted: False, 8, 3)[0], [])
        self.assertEqual(self.asked_of(lambda stock, wanted: True, 8, 3)[0], [(0, None)])
        self.assertEqual(learned_stairs(box=lambda stock, wanted: stock >= 5 and wanted < 3, most=9, gain=2), [(5, -3)])

    def test_no_most_and_no_gain(self):
        for pairs in all_stairs(0, 0):
            self.assertEqual(self.asked_of(lambda stock, wanted: answers(pairs, stock, wanted), 0, 0)[0], pairs)
        told, log = self.asked_of(lambda stock, wanted: True, 0, 0)
        self.assertEqual((told, list(log)), ([(0, None)], [(0, 0), (0, 1)]))

    def test_all_small_stairs(self):
        for most, gain in [(3, 2), (2, 0), (0, 3), (4, 1)]:
            for pairs in all_stairs(most, gain):
                self.assertEqual(self.asked_of(lambda stock, wanted: answers(pairs, stock, wanted), most, gain)[0], pairs)

    def test_of_parts(self):
        random = Random(191)
        for _ in range(60):
            part = random_part(random, 1, 1, change=4)
            most, gain = random.randint(0, 30), random.randint(0, 20)
            told, _ = self.asked_of(lambda stock, wanted: worth_in(part, "through", (0, 0, stock, wanted)), most, gain)
            kept = []
            for need, more in form(part, "through")[0][0]:
                if need <= most and (not kept or kept[-1][1] is not None):
                    kept.append((need, None if more is None or more > gain else more))
            self.assertEqual(told, kept)

    def test_whatever_is_answered(self):
        random = Random(192)
        for most, gain in product((0, 1, 3, 4), (0, 2)):
            known = all_stairs(most, gain)
            for _ in range(25):
                share = random.random()
                told, log = self.asked_of(lambda stock, wanted: random.random() < share, most, gain)
                fit = [pairs for pairs in known if all(answers(pairs, *way) == said for way, said in log.items())]
                self.assertEqual(fit, [told])

    def test_far(self):
        pairs = [(k * 97, k * 50 - 400) for k in range(10, 11)] + [(1000, 600)]
        self.assertEqual(self.asked_of(lambda stock, wanted: answers(pairs, stock, wanted), 1000, 1000)[0], [(970, 100), (1000, 600)])
        self.assertEqual(self.asked_of(lambda stock, wanted: answers(pairs, stock, wanted), 1000, 99)[0], [(970, None)])

    def test_same_again(self):
        first = self.asked_of(lambda stock, wanted: stock > 6 and wanted < 30, 40, 20)
        again = self.asked_of(lambda stock, wanted: stock > 6 and wanted < 30, 40, 20)
        self.assertEqual((first[0], list(first[1])), (again[0], list(again[1])))

    def test_bad_answer(self):
        for thing in [1, 0, None] + [one for one in objects() if not isinstance(one, bool)]:
            for many in range(4):
                said = [True, False, True][:many] + [thing]
                with self.assertRaises(BadAnswer) as caught:
                    learned_stairs(lambda stock, wanted: said.pop(0), 20, 20)
                self.assertIs(caught.exception.thing, thing)
                self.assertEqual(said, [])

    def test_what_a_box_raises(self):
        def box(stock, wanted):
            raise KeyError("mine")

        self.assertRaises(KeyError, learned_stairs, box, 5, 5)

    def test_bad_bounds(self):
        for thing in [-1] + non_integers():
            with self.assertRaises(BadMost) as caught:
                learned_stairs(None, thing, None)
            self.assertIs(caught.exception.most, thing)
            with self.assertRaises(BadGain) as caught:
                learned_stairs(None, 5, thing)
            self.assertIs(caught.exception.gain, thing)


if __name__ == "__main__":
    unittest.main()
