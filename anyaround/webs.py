"""Webs, and the walks and rings in them."""

from anyaround.checks import check_place, is_integer, is_list
from anyaround.errors import BadPlaces, BadSteps, BadWalk
from anyaround.searches import come_to, lots_of, row_along


class Web:
    """Places, numbered from 0 on, and steps between them."""

    def __init__(self, places, steps):
        if not is_integer(places) or places < 1:
            raise BadPlaces(places)
        self._places = places
        self._steps = sorted(read_steps(places, steps))
        # What was worked out of the web by others stays with it, as it never changes.
        self.known = {}

    def places(self):
        """How many places the web has."""
        return self._places

    def steps(self):
        """The ascending list of the steps."""
        return list(self._steps)

    def __eq__(self, other):
        return isinstance(other, Web) and self._places == other._places and self._steps == other._steps


def read_step(places, thing):
    """A step between so many places, of tuples; None for what is no such step."""
    if not is_list(thing) or len(thing) != 5:
        return None
    one, other, amounts, ticks, change = thing
    if not is_list(amounts) or len(amounts) != 2:
        return None
    for number in (one, other, amounts[0], amounts[1], ticks, change):
        if not isinstance(number, int) or isinstance(number, bool):
            return None
    if one < 0 or one >= places or other < 0 or other >= places or ticks < 1:
        return None
    return one, other, tuple(amounts), ticks, change


def read_steps(places, things):
    """Unlike steps between so many places, in the order in which they are passed."""
    if not is_list(things):
        raise BadSteps(0)
    found = {}
    for index, thing in enumerate(things):
        step = read_step(places, thing)
        if step is None or step in found:
            raise BadSteps(index)
        found[step] = True
    return list(found)


def read_walk(web, thing):
    """A walk as a list of steps of tuples; None for what is no walk."""
    if not is_list(thing):
        return None
    known = {step: True for step in web.steps()}
    walk = []
    for part in thing:
        step = read_step(web.places(), part)
        if step not in known:
            return None
        if walk and walk[-1][1] != step[0]:
            return None
        walk.append(step)
    return walk


def checked_walk(web, thing):
    """A walk as a list of steps of tuples."""
    walk = read_walk(web, thing)
    if walk is None:
        raise BadWalk(thing)
    return walk


def is_walk(web, thing):
    """Whether any object is a walk."""
    return read_walk(web, thing) is not None


def is_ring(web, thing):
    """Whether any object is a ring: it ends where it begins and comes into no place twice."""
    walk = read_walk(web, thing)
    if not walk:
        return False
    ends = {step[1]: True for step in walk}
    return walk[0][0] == walk[-1][1] and len(ends) == len(walk)


def sum_of(web, walk):
    """The triple (amounts, ticks, change) of what the steps of a walk have together."""
    steps = checked_walk(web, walk)
    first, second, ticks = row_along(steps)
    return (first, second), ticks, sum([step[4] for step in steps])


def reached(web, place):
    """The ascending list of the places to which walks lead from a place, this one too."""
    check_place(web, place)
    return come_to(web.steps(), [place])


def lots(web):
    """The list of the lots, by their least places."""
    return [lot for lot, _ in lots_of(web.steps())]
