"""Positions in programs, one for each time that a name or the hole is done, and what can be done behind them.

A STAND of a tree is a pair (leaf, counts): the number of a node that is a name or the hole, and how often each often
around it was done ahead, from outside. Positions number the stands that one comes to, from 0 on, as they are needed,
so that oftens of any number cost nothing until they are done. Sets of positions are told as bits of an integer.
"""


class Positions:
    """The positions of a tree: their stands, what can be done behind each, and what can be done first."""

    def __init__(self, tree):
        self.tree = tree
        self.numbers = {}
        self.stands = []
        self.behind = {}
        self.first = as_bits(self, begins(tree, 0, ()))

    def mark(self, number):
        """The name at a position, None for the hole."""
        return self.tree.marks[self.stands[number][0]]

    def after(self, number):
        """A pair: the positions that can be done next behind one, whether a run can end with it."""
        if number not in self.behind:
            stands, ends = next_stands(self.tree, self.stands[number])
            self.behind[number] = (as_bits(self, stands), ends)
        return self.behind[number]


def as_bits(positions, stands):
    """The positions of stands, which get numbers if they have none."""
    bits = 0
    for stand in stands:
        number = positions.numbers.setdefault(stand, len(positions.stands))
        if number == len(positions.stands):
            positions.stands.append(stand)
        bits = bits | 1 << number
    return bits


def numbers_of(bits):
    """The ascending list of the positions of a set."""
    found = []
    while bits:
        found.append((bits & (0 - bits)).bit_length() - 1)
        bits = bits & (bits - 1)
    return found


def begins(tree, node, counts):
    """The stands with which a node can begin, where the oftens around it were done so often."""
    found = []
    todo = [(node, counts)]
    while todo:
        one, so_often = todo.pop()
        word = tree.words[one]
        inner = tree.pieces[one]
        if not inner:
            found.append((one, so_often))
        elif word == "either":
            todo.extend([(piece, so_often) for piece in inner[::-1]])
        else:
            todo.append((inner[0], so_often + (0,) if word == "often" else so_often))
    return found


def next_stands(tree, stand):
    """A pair: the stands that can be done next behind one, whether a run can end with it."""
    node, counts = stand
    found = []
    above = tree.above[node]
    while above >= 0:
        word = tree.words[above]
        inner = tree.pieces[above]
        turn = tree.turns[node]
        if word == "behind" and turn + 1 < len(inner):
            return found + begins(tree, inner[turn + 1], counts), False
        if word == "again":
            found.extend(begins(tree, inner[0], counts))
        if word == "often":
            done = counts[-1] + 1
            counts = counts[:-1]
            if done < tree.marks[above]:
                return found + begins(tree, inner[0], counts + (done,)), False
        node = above
        above = tree.above[node]
    return found, True


def with_mark(positions, bits, mark):
    """Those of a set of positions that have a name, or None for the hole."""
    found = 0
    for number in numbers_of(bits):
        if positions.mark(number) == mark:
            found = found | 1 << number
    return found


def after_all(positions, bits):
    """A pair: the positions that can be done next behind some of a set, whether a run can end with some of them."""
    found = 0
    ends = False
    for number in numbers_of(bits):
        more, end = positions.after(number)
        found = found | more
        ends = ends or end
    return found, ends


def hole_of(positions):
    """The position of the hole, None if there is none; as no often is around it, it has just one."""
    tree = positions.tree
    if "hole" not in tree.words:
        return None
    return numbers_of(as_bits(positions, [(tree.words.index("hole"), ())]))[0]


def is_bare(positions):
    """Whether some run begins or ends with the hole, or has two of them one behind another."""
    hole = hole_of(positions)
    if hole is None:
        return False
    more, ends = positions.after(hole)
    return ends or (positions.first | more) >> hole & 1 == 1
