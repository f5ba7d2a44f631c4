import unittest
from random import Random

from anyaround.errors import BadDoor, BadIns, BadLinks, BadOuts, BadParts, UnlikeDoors
from anyaround.formparts import the_part
from anyaround.kinds import alike, form, never_worse, worth_in
from anyaround.nets import again, behind, either, wired
from anyaround.parts import Part

from tests.brute import non_integers, non_lists, objects, part_p
from tests.plain import KINDS, for_kind, plain_form, random_part

A = Part(2, [(0, 1, (1, 0), 1, 0)], [0], [1])
B = Part(2, [(0, 0, (0, 1), 1, 0), (0, 1, (0, 2), 1, 0)], [0], [1])
TWO = Part(4, [(0, 2, (1, 1), 1, 0), (1, 3, (2, 2), 1, 1), (0, 3, (3, 3), 1, 0)], [0, 1], [2, 3])


def small_part(random, kind, ins=None, outs=None):
    return random_part(random, ins, outs, **{**for_kind(kind), "places": random.randint(2, 3),
                                             "steps": random.randint(1, 5)})


def random_net(random, parts):
    """Links, in doors and out doors for parts."""
    into = [(number, door) for number, part in enumerate(parts) for door in range(len(part.ins()))]
    out_of = [(number, door) for number, part in enumerate(parts) for door in range(len(part.outs()))]
    links = list({random.choice(out_of) + random.choice(into) for _ in range(random.randint(0, 5))})
    return (links, [random.sample(into, random.randint(1, min(3, len(into)))) for _ in range(random.randint(1, 2))],
            [random.sample(out_of, random.randint(1, min(3, len(out_of)))) for _ in range(random.randint(1, 2))])


def plain_whole(parts, links, ins, outs):
    """The whole, by asking of each pair of places whether a step of a part leads from the one to the other."""
    offsets = [sum(part.web().places() for part in parts[:number]) for number in range(len(parts) + 1)]
    many = offsets[-1] + len(ins) + len(outs)
    steps = set()
    for number, part in enumerate(parts):
        for one, other, *rest in part.web().steps():
            for begin in range(many):
                begins = begin == offsets[number] + one or any(
                    begin == offsets[-1] + k and p == number and part.ins()[door] == one
                    for k, pairs in enumerate(ins) for p, door in pairs)
                for end in range(many) if begins else []:
                    ends = end == offsets[number] + other or any(
                        end == offsets[-1] + len(ins) + k and p == number and part.outs()[door] == other
                        for k, pairs in enumerate(outs) for p, door in pairs) or any(
                        p == number and part.outs()[out] == other and end == offsets[q] + parts[q].ins()[door]
                        for p, out, q, door in links)
                    if ends:
                        steps.add((begin, end, *rest))
    first = offsets[-1]
    return Part(many, list(steps), list(range(first, first + len(ins))), list(range(first + len(ins), many)))


class WiredTest(unittest.TestCase):
    def test_example(self):
        whole = behind(A, B)
        told = [(0, 1, (1, 0), 1, 0), (0, 2, (1, 0), 1, 0), (4, 1, (1, 0), 1, 0), (4, 2, (1, 0), 1, 0),
                (2, 2, (0, 1), 1, 0), (2, 3, (0, 2), 1, 0), (2, 5, (0, 2), 1, 0)]
        self.assertEqual(whole, Part(6, told, [4], [5]))
        self.assertEqual(form(whole, "rates"), [([(0, 1, 1)], [[(1, 2, 2)]])])
        ring = again(A, 0, 0)
        self.assertEqual(ring.web().steps(), sorted((one, other, (1, 0), 1, 0) for one in (0, 2) for other in (0, 1, 3)))
        self.assertEqual((ring.ins(), ring.outs()), ([2], [3]))
        self.assertEqual(worth_in(ring, "rates", (0, [], (1, 1))), (1, 1))
        self.assertEqual(whole, wired(parts=[A, B], links=[(0, 0, 1, 0)], ins=[[(0, 0)]], outs=[[(1, 0)]]))

    def test_one_part_alone(self):
        for kind in KINDS:
            random = Random(121)
            for _ in range(20):
                part = random_part(random, **for_kind(kind))
                whole = wired([part], [], [[(0, door)] for door in range(len(part.ins()))],
                              [[(0, door)] for door in range(len(part.outs()))])
                self.assertTrue(alike(whole, part, kind))
                self.assertEqual(whole.web().places(), part.web().places() + len(part.ins()) + len(part.outs()))

    def test_twice_in_a_net(self):
        net = [(0, 0, 1, 0), (1, 0, 2, 0)], [[(0, 0)]], [[(2, 0)]]
        self.assertEqual(form(wired([A, A, A], *net), "rates"), [([], [[(3, 0, 3)]])])
        self.assertEqual(form(wired([A, B, A], *net), "rates"), [([(0, 1, 1)], [[(2, 2, 3)]])])

    def test_links(self):
        # A door in several links and several lists; a link from a part to itself.
        whole = wired([A, B], [(0, 0, 1, 0), (0, 0, 0, 0)], [[(0, 0), (1, 0)], [(1, 0)]], [[(1, 0)], [(0, 0), (1, 0)]])
        self.assertEqual(form(whole, "budgets"), [[[(0, 2)], [(0, 2), (1, 0)]], [[(0, 2)], [(0, 2)]]])
        self.assertEqual(form(whole, "rates")[0][0], [(0, 1, 1), (1, 0, 1)])
        self.assertEqual(form(whole, "rates")[1][0], [(0, 1, 1)])

    def test_like_steps_are_one(self):
        ring = Part(2, [(0, 1, (1, 1), 1, 0), (0, 0, (1, 1), 1, 0)], [0], [1])
        whole = wired([ring], [(0, 0, 0, 0)], [[(0, 0)]], [[(0, 0)]])
        self.assertEqual(whole.web().steps(), sorted((one, other, (1, 1), 1, 0) for one in (0, 2) for other in (0, 1, 3)))

    def test_no_steps(self):
        empty = Part(2, [], [0], [1])
        self.assertEqual(wired((empty, empty), (), (((0, 0),),), (((1, 0),),)), Part(6, [], [4], [5]))

    def test_as_written(self):
        random = Random(122)
        for _ in range(60):
            parts = [small_part(random, "rates") for _ in range(random.randint(1, 3))]
            net = random_net(random, parts)
            whole = wired(parts, *net)
            self.assertEqual(whole, plain_whole(parts, *net))
            back = [link[::-1][::-1] for link in net[0][::-1]], [pairs[::-1] for pairs in net[1]], net[2]
            self.assertEqual(wired(tuple(parts), *back), whole)
            for step in whole.web().steps():
                self.assertNotIn(step[1], whole.ins())
                self.assertNotIn(step[0], whole.outs())

    def test_forms_as_searched(self):
        random = Random(123)
        for kind in KINDS:
            for _ in range(15):
                parts = [small_part(random, kind) for _ in range(2)]
                whole = wired(parts, *random_net(random, parts))
                if len(whole.web().steps()) <= 22:
                    self.assertEqual(form(whole, kind), plain_form(whole, kind))

    def test_bad_parts(self):
        for thing in non_lists() + [[], ()]:
            with self.assertRaises(BadParts) as caught:
                wired(thing, None, None, None)
            self.assertEqual(caught.exception.index, 0)
        for thing in objects():
            if not isinstance(thing, Part):
                with self.assertRaises(BadParts) as caught:
                    wired([A, B, thing, thing], None, None, None)
                self.assertEqual(caught.exception.index, 2)

    def test_bad_links(self):
        good = [(0, 0, 1, 0), (1, 0, 0, 0)]
        for thing in non_lists():
            with self.assertRaises(BadLinks) as caught:
                wired([A, B], thing, None, None)
            self.assertEqual(caught.exception.index, 0)
        wrong = [(0, 0, 1, 0), [1, 0, 0, 0], (2, 0, 0, 0), (0, 1, 0, 0), (0, 0, 2, 0), (0, 0, 0, 1), (0, 0, 0), (-1, 0, 0, 0),
                 (0, -1, 0, 0), (0, 0, -1, 0), (0, 0, 0, -1), (False, 0, 0, 0), (0, 0, 0, 0, 0), (0, 0, 0, None)]
        for thing in wrong + objects():
            with self.assertRaises(BadLinks) as caught:
                wired([A, B], good + [thing, thing], None, None)
            self.assertEqual(caught.exception.index, 2)

    def test_bad_lists(self):
        wrong = [[(0, 0), (2, 0)], [(0, 1)], [(0, 0), (0, 0)], [(0, 0), [0, 0]], [(0, 0, 0)], [(0,)], [None], [(True, 0)],
                 [(0, -1)], (0, 0), [(0, 0), 1]]
        for thing in non_lists() + [[], ()]:
            with self.assertRaises(BadIns) as caught:
                wired([A, B], [], thing, None)
            self.assertEqual(caught.exception.index, 0)
            with self.assertRaises(BadOuts) as caught:
                wired([A, B], [], [[(0, 0)]], thing)
            self.assertEqual(caught.exception.index, 0)
        for thing in wrong + [one for one in objects() if one != [(0, 1)]]:
            with self.assertRaises(BadIns) as caught:
                wired([A, B], [], [[(0, 0)], [(0, 0)], thing, thing], None)
            self.assertEqual(caught.exception.index, 2)
            with self.assertRaises(BadOuts) as caught:
                wired([A, B], [], [[(0, 0)]], [[(1, 0), (0, 0)], thing, thing])
            self.assertEqual(caught.exception.index, 1)


class WaysTest(unittest.TestCase):
    def test_unlike_doors(self):
        one = Part(3, [], [0], [1, 2])
        for call, two in [(behind, (one, A)), (behind, (A, TWO)), (either, (A, TWO)), (either, (A, one)),
                          (either, (Part(3, [], [0, 1], [2]), A))]:
            self.assertRaises(UnlikeDoors, call, *two)
        behind(A, one)
        behind(one, TWO)

    def test_again_doors(self):
        for thing in [2, -1] + non_integers():
            with self.assertRaises(BadDoor) as caught:
                again(TWO, thing, 9)
            self.assertIs(caught.exception.number, thing)
            with self.assertRaises(BadDoor) as caught:
                again(TWO, 1, thing)
            self.assertIs(caught.exception.number, thing)

    def test_as_nets(self):
        one = Part(5, TWO.web().steps() + [(0, 4, (0, 1), 1, 0), (4, 3, (1, 0), 1, 0)], [1, 0], [3, 2])
        self.assertEqual(behind(one, TWO), wired([one, TWO], [(0, 0, 1, 0), (0, 1, 1, 1)], [[(0, 0)], [(0, 1)]],
                                                 [[(1, 0)], [(1, 1)]]))
        self.assertEqual(either(one, TWO), wired([one, TWO], [], [[(0, 0), (1, 0)], [(0, 1), (1, 1)]],
                                                 [[(0, 0), (1, 0)], [(0, 1), (1, 1)]]))
        self.assertEqual(again(one, 1, 0), wired([one], [(0, 1, 0, 0)], [[(0, 0)], [(0, 1)]], [[(0, 0)], [(0, 1)]]))
        self.assertEqual(behind(one=one, other=TWO), behind(one, TWO))
        self.assertEqual(again(part=one, out=1, door=0), again(one, 1, 0))

    def test_facts(self):
        for kind in KINDS:
            random = Random(124)
            for _ in range(6):
                doors = random.randint(1, 2)
                a, b, c = [random_part(random, doors, doors, **{**for_kind(kind), "places": 4,
                                                                "steps": random.randint(2, 7)}) for _ in range(3)]
                for one, other in [
                        (behind(behind(a, b), c), behind(a, behind(b, c))), (either(a, b), either(b, a)), (either(a, a), a),
                        (either(either(a, b), c), either(a, either(b, c))),
                        (behind(either(a, b), c), either(behind(a, c), behind(b, c))),
                        (behind(a, either(b, c)), either(behind(a, b), behind(a, c)))]:
                    self.assertTrue(alike(one, other, kind))
                self.assertTrue(never_worse(either(a, b), a, kind))
                self.assertEqual(alike(either(a, b), a, kind), never_worse(a, b, kind))
                round_a = again(a, doors - 1, 0)
                self.assertTrue(never_worse(round_a, a, kind))
                self.assertTrue(alike(round_a, again(round_a, doors - 1, 0), kind))

    def test_exchanged(self):
        for kind in KINDS:
            random = Random(125)
            for _ in range(12):
                parts = [small_part(random, kind) for _ in range(random.randint(1, 3))]
                net = random_net(random, parts)
                whole = wired(parts, *net)
                like = the_part(form(parts[0], kind), kind)
                self.assertTrue(alike(wired([like] + parts[1:], *net), whole, kind))
                other = small_part(random, kind, len(parts[0].ins()), len(parts[0].outs()))
                self.assertTrue(never_worse(wired([either(parts[0], other)] + parts[1:], *net), whole, kind))
                if never_worse(other, parts[0], kind):
                    self.assertTrue(never_worse(wired([other] + parts[1:], *net), whole, kind))

    def test_great_wholes(self):
        part = Part(6, [(one, other, (one + 2 * other, 9 - one), 1 + other, one - other) for one in range(6)
                        for other in range(6) if (one + other) % 3], [0, 1], [4, 5])
        links = [(k, out, (k + 1) % 4, door) for k in range(4) for out in range(2) for door in range(2)]
        whole = wired([part] * 4, links[:8], [[(0, 0), (1, 1)], [(2, 0)]], [[(3, 1)], [(1, 0), (2, 1)]])
        for kind in KINDS:
            self.assertTrue(form(whole, kind))
        self.assertTrue(alike(part_p(), again(part_p(), 0, 0), "prices"))


if __name__ == "__main__":
    unittest.main()
