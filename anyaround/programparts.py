"""The parts of programs, and the walks in them that beginnings of runs are."""

from anyaround.checks import is_list
from anyaround.errors import BadWalk
from anyaround.parts import Part
from anyaround.positions import Positions, hole_of, is_bare, numbers_of, with_mark
from anyaround.refusals import BareHole, NoBeginning
from anyaround.trees import checked_tree, checked_works
from anyaround.webs import read_walk


class Ground:
    """The positions of a program with works for them, and the places that they have in its part.

    The place 0 is where the program begins, end is where it ends; with a hole the place 1 is that behind the hole, and
    ahead is where the hole is to be done, else it is None.
    """

    def __init__(self, positions, works):
        self.positions = positions
        self.works = works
        self.hole = hole_of(positions)
        self.end = 1 if self.hole is None else 2
        self.ahead = None if self.hole is None else 3
        # The positions that have places of their own, behind which another work can be done.
        self.own = places_of(positions, self.hole, 2 * self.end)

    def work(self, number):
        """What the work at a position has."""
        return self.works[self.positions.mark(number)]

    def ends(self, number):
        """The places at which one is behind a position, the end first."""
        more, last = self.positions.after(number)
        found = [self.end] if last else []
        if number in self.own:
            found.append(self.own[number])
        if self.hole is not None and more >> self.hole & 1:
            found.append(self.ahead)
        return found


def without(bits, number):
    """The positions of a set but for one; None takes nothing away."""
    return numbers_of(bits if number is None else bits & ~(1 << number))


def places_of(positions, hole, first):
    """The places, from first on, of all positions behind which another work can be done."""
    found = {}
    # What can be done first can often be done behind the hole, too.
    begun = positions.first if hole is None else positions.first | positions.after(hole)[0]
    todo = without(begun, hole)
    seen = {number: True for number in todo}
    while todo:
        number = todo.pop()
        later = without(positions.after(number)[0], hole)
        if later:
            found[number] = first + len(found)
        for other in later:
            if other not in seen:
                seen[other] = True
                todo.append(other)
    return found


def checked_positions(program, works):
    """A pair: the positions of a program, works that have all its names; behind all that is to be refused."""
    tree = checked_tree(program)
    read = checked_works(tree, works)
    positions = Positions(tree)
    if is_bare(positions):
        raise BareHole()
    return positions, read


def ground_of(program, works):
    """The ground of a program, behind all that is to be refused."""
    positions, read = checked_positions(program, works)
    return Ground(positions, read)


def part_on(ground):
    """The part of a program, by its ground."""
    positions = ground.positions
    leaving = [(0, positions.first)]
    if ground.hole is not None:
        leaving.append((1, positions.after(ground.hole)[0]))
    for number, place in ground.own.items():
        leaving.append((place, positions.after(number)[0]))
    steps = {}
    for place, later in leaving:
        for number in without(later, ground.hole):
            for end in ground.ends(number):
                steps[(place, end) + ground.work(number)] = True
    doors = ground.end
    return Part(2 * doors + len(ground.own), list(steps), list(range(doors)), list(range(doors, 2 * doors)))


def program_part(program, works):
    """The part of a program with works."""
    return part_on(ground_of(program, works))


def layers_along(ground, names):
    """The layers of positions to which names lead, each a dict to a position ahead (-1 for none); None for no such.

    No hole is among them.
    """
    layers = [{-1: None}]
    for name in names:
        layer = {}
        for before in layers[-1]:
            later = ground.positions.first if before < 0 else ground.positions.after(before)[0]
            for number in numbers_of(with_mark(ground.positions, later, name)):
                layer.setdefault(number, before)
        if not layer:
            return None
        layers.append(layer)
    return layers


def back_along(layers, number):
    """The positions of the layers, without the first one, by which one comes to a position of the last one."""
    found = []
    for layer in layers[:0:-1]:
        found.append(number)
        number = layer[number]
    return list(reversed(found))


def walk_of(program, works, names):
    """A walk of the part of a program that has what the works of a beginning without None have."""
    ground = ground_of(program, works)
    if not is_list(names) or not all([isinstance(name, str) for name in names]):
        raise NoBeginning(names)
    layers = layers_along(ground, names)
    if layers is None:
        raise NoBeginning(names)
    last = min(list(layers[-1]), key=lambda one: (ground.end not in end_places(ground, one), one))
    walk = []
    place = 0
    for number in back_along(layers, last):
        # In the midst of a walk no place but its own leads on.
        end = end_places(ground, number)[0] if len(walk) + 1 == len(names) else ground.own[number]
        walk.append((place, end) + ground.work(number))
        place = end
    return walk


def end_places(ground, number):
    """The places at which a walk can end that a position does last; none for the begin."""
    return [] if number < 0 else ground.ends(number)


def position_for(ground, later, end, work):
    """The first position of a set that leads to a place with a work."""
    for number in without(later, ground.hole):
        if ground.work(number) == work and end in ground.ends(number):
            return number
    return None


def names_of(program, works, walk):
    """A beginning without None whose works have what a walk of the part of a program has."""
    ground = ground_of(program, works)
    steps = read_walk(part_on(ground).web(), walk)
    if steps is None or (steps and steps[0][0] != 0):
        raise BadWalk(walk)
    names = []
    later = ground.positions.first
    for step in steps:
        number = position_for(ground, later, step[1], step[2:])
        names.append(ground.positions.mark(number))
        later = ground.positions.after(number)[0]
    return names
