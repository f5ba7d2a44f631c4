import unittest
from random import Random

from anyaround.errors import BadDoor, BadIns, BadLinks, BadOuts, BadParts, BadPieces, BadWalk
from anyaround.nets import wired
from anyaround.parts import Part, is_pass
from anyaround.pieces import pass_of, pieces_of
from anyaround.webs import sum_of

from tests.brute import non_integers, non_lists, objects
from tests.plain import passes
from tests.test_everywhere import turned
from tests.test_nets import A, B, random_net, small_part

NET = [(0, 0, 1, 0)], [[(0, 0)]], [[(1, 0)]]
STEP_A, LOOP_B, STEP_B = (0, 1, (1, 0), 1, 0), (0, 0, (0, 1), 1, 0), (0, 1, (0, 2), 1, 0)
PIECES = [(0, 0, 0, [STEP_A]), (1, 0, 0, [STEP_B])]
WALK = [(4, 2, (1, 0), 1, 0), (2, 5, (0, 2), 1, 0)]


def walks_out(whole, many, random):
    """Some passes of a whole, not just simple ones."""
    found = []
    for place in whole.ins():
        for _ in range(many):
            walk, at = [], place
            while len(walk) < 12:
                ahead = [step for step in whole.web().steps() if step[0] == at]
                if not ahead:
                    break
                walk.append(random.choice(ahead))
                at = walk[-1][1]
            if at in whole.outs():
                found.append(walk)
    return found


class PiecesTest(unittest.TestCase):
    def check(self, parts, net, walk):
        links, ins, outs = net
        whole = wired(parts, *net)
        told = pieces_of(parts, *net, walk)
        k, l = whole.ins().index(walk[0][0]), whole.outs().index(walk[-1][1])
        self.assertIs(type(told), list)
        for number, i, j, inner in told:
            self.assertIs(type(inner), list)
            self.assertTrue(is_pass(parts[number], i, j, inner))
        self.assertIn(told[0][:2], ins[k])
        self.assertIn((told[-1][0], told[-1][2]), outs[l])
        for one, other in zip(told, told[1:]):
            self.assertIn((one[0], one[2], other[0], other[1]), links)
        self.assertEqual(pass_of(parts, *net, k, l, told), walk)
        sums = [sum_of(parts[number].web(), inner) for number, _, _, inner in told]
        amounts = tuple(sum(one[0][k] for one in sums) for k in (0, 1))
        self.assertEqual(sum_of(whole.web(), walk), (amounts, sum(one[1] for one in sums), sum(one[2] for one in sums)))
        self.assertEqual(pieces_of(turned(parts), *turned(list(net)), turned(walk)), told)

    def test_example(self):
        self.assertEqual(pieces_of([A, B], *NET, WALK), PIECES)
        self.assertEqual(pass_of([A, B], *NET, 0, 0, PIECES), WALK)
        self.assertEqual(pass_of(parts=[A, B], links=NET[0], ins=NET[1], outs=NET[2], k=0, l=0,
                                 pieces=[(0, 0, 0, [STEP_A]), [1, 0, 0, (LOOP_B, LOOP_B, list(STEP_B))]]),
                         [(4, 2, (1, 0), 1, 0), (2, 2, (0, 1), 1, 0), (2, 2, (0, 1), 1, 0), (2, 5, (0, 2), 1, 0)])

    def test_through_doors(self):
        # Through the place of another door, and out and in again with the same step.
        part = Part(3, [(0, 1, (0, 0), 1, 0), (1, 0, (2, 0), 1, 0), (0, 2, (0, 3), 1, 0)], [0], [1, 2])
        net = [(0, 0, 0, 0)], [[(0, 0)]], [[(0, 1)]]
        whole = wired([part], *net)
        for walk in walks_out(whole, 60, Random(1)):
            self.check([part], net, walk)
        walk = pass_of([part], *net, 0, 0, [(0, 0, 0, [part.web().steps()[0]])] * 3 + [(0, 0, 1, [part.web().steps()[1]])])
        self.assertEqual([step[:2] for step in walk], [(3, 0), (0, 0), (0, 0), (0, 4)])

    def test_each_pass_has_pieces(self):
        random = Random(131)
        for _ in range(60):
            parts = [small_part(random, "rates") for _ in range(random.randint(1, 3))]
            parts += parts[:1]
            net = random_net(random, parts)
            whole = wired(parts, *net)
            simple = [walk for k in range(len(whole.ins())) for l in range(len(whole.outs()))
                      for walk in passes(whole, k, l)[:6]]
            for walk in simple + walks_out(whole, 6, random):
                self.check(parts, net, walk)

    def test_pieces_make_passes(self):
        random = Random(132)
        for _ in range(40):
            parts = [small_part(random, "rates") for _ in range(2)]
            links, ins, outs = random_net(random, parts)
            number, i = random.choice(ins[0])
            told = []
            while True:
                ways = [(j, walk) for j in range(len(parts[number].outs())) for walk in passes(parts[number], i, j)]
                if not ways:
                    break
                j, walk = random.choice(ways)
                told.append((number, i, j, walk))
                for l, pairs in enumerate(outs):
                    if (number, j) in pairs:
                        found = pass_of(parts, links, ins, outs, 0, l, told)
                        self.assertTrue(is_pass(wired(parts, links, ins, outs), 0, l, found))
                        self.assertEqual(len(found), sum(len(piece[3]) for piece in told))
                ahead = [link for link in links if link[:2] == (number, j)]
                if not ahead or len(told) > 6:
                    break
                number, i = random.choice(ahead)[2:]

    def test_bad_pieces(self):
        for thing in non_lists() + [[], ()]:
            with self.assertRaises(BadPieces) as caught:
                pass_of([A, B], *NET, 0, 0, thing)
            self.assertEqual(caught.exception.index, 0)
        for pieces, index in [
                ([PIECES[1]], 0), (PIECES[:1], 1), (PIECES[:1] * 2, 1), (PIECES + PIECES[1:], 2), (PIECES + [None], 2),
                ([(0, 0, 0, []), None], 0), ([(0, 0, 0, [STEP_B])], 0), ([(0, 0, 1, [STEP_A])], 0), ([(0, 1, 0, [STEP_A])], 0),
                ([(2, 0, 0, [STEP_A])], 0), ([(-1, 0, 0, [STEP_B])], 0), ([(0, 0, 0)], 0), ([(0, False, 0, [STEP_A])], 0),
                ([(0, 0, 0, [STEP_A], 0)], 0), ([PIECES[0], (1, 0, 0, [LOOP_B])], 1), ([(0, 0, 0, None)], 0),
                ([PIECES[0], (1, 0, 0, [STEP_B, LOOP_B])], 1)]:
            with self.assertRaises(BadPieces, msg=pieces) as caught:
                pass_of([A, B], *NET, 0, 0, pieces)
            self.assertEqual(caught.exception.index, index)
        for thing in objects():
            with self.assertRaises(BadPieces) as caught:
                pass_of([A, B], *NET, 0, 0, [PIECES[0], thing])
            self.assertEqual(caught.exception.index, 1)

    def test_bad_walk(self):
        for thing in objects() + [[], WALK[:1], WALK[1:], [(0, 2, (1, 0), 1, 0)] + WALK[1:], WALK + WALK, [STEP_A],
                                  [WALK[0], (2, 3, (0, 2), 1, 0)], [WALK[0], (2, 5, (0, 2), True, 0)]]:
            with self.assertRaises(BadWalk, msg=thing) as caught:
                pieces_of([A, B], *NET, thing)
            self.assertIs(caught.exception.walk, thing)

    def test_order_of_errors(self):
        links, ins, outs = NET
        for call, more in [(pass_of, (9, 9, None)), (pieces_of, (None,))]:
            self.assertRaises(BadParts, call, [A, None], None, None, None, *more)
            self.assertRaises(BadLinks, call, [A, B], None, None, None, *more)
            self.assertRaises(BadIns, call, [A, B], links, None, None, *more)
            self.assertRaises(BadOuts, call, [A, B], links, ins, [[]], *more)
        for thing in [1, -1] + non_integers():
            for doors in [(thing, 9), (0, thing)]:
                with self.assertRaises(BadDoor) as caught:
                    pass_of([A, B], *NET, *doors, None)
                self.assertIs(caught.exception.number, thing)


if __name__ == "__main__":
    unittest.main()
