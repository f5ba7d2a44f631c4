"""Programs of works, and the runs of names that they have."""

from anyaround.checks import is_list
from anyaround.positions import Positions, after_all, with_mark
from anyaround.refusals import BadProgram, HasHole, NoHole
from anyaround.trees import checked_tree, names_in, read_tree, told_of


def is_program(thing):
    """Whether any object is a program."""
    return read_tree(thing) is not None


def gone_along(program, thing):
    """A pair: whether any object is a beginning of a program, whether it is a run."""
    positions = Positions(checked_tree(program))
    if not is_list(thing):
        return False, False
    bits = positions.first
    ends = False
    for mark in thing:
        if mark is not None and not isinstance(mark, str):
            return False, False
        bits = with_mark(positions, bits, mark)
        # What one comes to at all can be done on to an end.
        if bits == 0:
            return False, False
        bits, ends = after_all(positions, bits)
    return True, ends


def is_run(program, thing):
    """Whether any object is a run of a program."""
    return gone_along(program, thing)[1]


def is_beginning(program, thing):
    """Whether any object is a run of a program, or becomes one with more behind it."""
    return gone_along(program, thing)[0]


def done_next(positions, state, mark):
    """What a state becomes by a name, or None; states are pairs: what can be done next, whether a run ends here."""
    return after_all(positions, with_mark(positions, state[0], mark))


def marks_back(found, number):
    """The list of the marks by which one came to what was found with a number; found has pairs (number, mark)."""
    marks = []
    while number > 0:
        number, mark = found[number]
        marks.append(mark)
    return list(reversed(marks))


def run_apart(one, other):
    """The first of the shortest lists that are a run of just one of two programs, None if they have the same runs."""
    mine = Positions(checked_tree(one))
    theirs = Positions(checked_tree(other))
    marks = [None] + sorted({mark: True for tree in (mine.tree, theirs.tree) for mark in names_in(tree)})
    states = [((mine.first, False), (theirs.first, False))]
    seen = {states[0]: True}
    found = [(0, None)]
    number = 0
    # The states come by their lists, the shorter ones first, like long ones as lists compare.
    while number < len(states):
        left, right = states[number]
        for mark in marks:
            pair = (done_next(mine, left, mark), done_next(theirs, right, mark))
            if pair[0][1] != pair[1][1]:
                return marks_back(found, number) + [mark]
            if pair not in seen:
                seen[pair] = True
                states.append(pair)
                found.append((number, mark))
        number = number + 1
    return None


def put_in(program, filler):
    """A program with another one in the place of its hole."""
    tree = checked_tree(program)
    if "hole" not in tree.words:
        raise NoHole()
    inner = read_tree(filler)
    if inner is None:
        raise BadProgram(filler)
    if "hole" in inner.words:
        raise HasHole()
    return told_of(tree, told_of(inner, None))
