"""Parts, webs with doors, and the webs that they become with ways back around them."""

from anyaround.checks import is_integer, is_list
from anyaround.errors import BadDoor, BadIns, BadOuts, BadWays
from anyaround.webs import Web, read_step, read_walk


class Part:
    """A web with in doors and out doors."""

    def __init__(self, places, steps, ins, outs):
        self._web = Web(places, steps)
        wrong = first_wrong(places, ins, [])
        if wrong is not None:
            raise BadIns(wrong)
        wrong = first_wrong(places, outs, ins)
        if wrong is not None:
            raise BadOuts(wrong)
        self._ins = list(ins)
        self._outs = list(outs)
        # What was worked out of the part by others stays with it, as it never changes.
        self.known = {}

    def web(self):
        """The web of the part."""
        return self._web

    def ins(self):
        """The places of the in doors, in their order."""
        return list(self._ins)

    def outs(self):
        """The places of the out doors, in their order."""
        return list(self._outs)

    def __eq__(self, other):
        if not isinstance(other, Part):
            return False
        return self._web == other._web and self._ins == other._ins and self._outs == other._outs


def first_wrong(places, doors, taken):
    """The index of the first thing that is no door, or stood before, or is taken; None if there is none."""
    if not is_list(doors) or not doors:
        return 0
    seen = {place: True for place in taken}
    for index, door in enumerate(doors):
        if not is_integer(door) or door < 0 or door >= places or door in seen:
            return index
        seen[door] = True
    return None


def check_door(doors, number):
    """Raise BadDoor for what is no number of a door in a list."""
    if not is_integer(number) or number < 0 or number >= len(doors):
        raise BadDoor(number)


def is_pass(part, i, j, thing):
    """Whether any object is a pass from in door i to out door j."""
    ins = part.ins()
    outs = part.outs()
    check_door(ins, i)
    check_door(outs, j)
    walk = read_walk(part.web(), thing)
    if not walk:
        return False
    return walk[0][0] == ins[i] and walk[-1][1] == outs[j]


def read_way(ins, outs, thing):
    """A way back between so many in doors and out doors, of tuples; None for what is none."""
    # A way back has the form of a step, its ends being numbers of doors.
    way = read_step(max(ins, outs), thing)
    if way is None or way[0] >= outs or way[1] >= ins:
        return None
    return way


def read_ways(ins, outs, things):
    """A pair: unlike ways back between so many doors, or None; None, or the index of the first thing that is none."""
    if not is_list(things):
        return None, 0
    found = {}
    for index, thing in enumerate(things):
        way = read_way(ins, outs, thing)
        if way is None or way in found:
            return None, index
        found[way] = True
    return list(found), None


def closed_steps(part, ways):
    """The steps of a part and those for ways back around it, where these were read."""
    ins = part.ins()
    outs = part.outs()
    # Steps that come out alike are one.
    steps = {step: True for step in part.web().steps()}
    for out, door, amounts, ticks, change in ways:
        steps[(outs[out], ins[door], amounts, ticks, change)] = True
    return list(steps)


def closed(part, ways):
    """The web of a part and of steps for ways back around it."""
    found, wrong = read_ways(len(part.ins()), len(part.outs()), ways)
    if wrong is not None:
        raise BadWays(wrong)
    return Web(part.web().places(), closed_steps(part, found))
