"""Rooms: what names mean, and what is watched, at one time in a house."""

from anyaround.checks import is_list
from anyaround.errors import BadName, BadThing, InRing, NoName, UnlikeDoors
from anyaround.netlists import net_of
from anyaround.nets import whole_of
from anyaround.parts import Part
from anyaround.searches import spread
from anyaround.trees import is_name


class Rooms:
    """What names mean, parts or nets of tuples, and the watched promises, of tuples; neither ever changes.

    The parts that nets mean are kept in wholes as soon as they were asked for.
    """

    def __init__(self, means, kept, wholes):
        self.means = means
        self.kept = kept
        self.wholes = wholes


def as_tuples(thing):
    """The same with tuples for all lists in it."""
    if is_list(thing):
        return tuple([as_tuples(one) for one in thing])
    return thing


def is_same(one, other):
    """Whether two objects are equal, lists and tuples meaning the same, and True and False no numbers."""
    if is_list(one) and is_list(other):
        return len(one) == len(other) and all([is_same(mine, theirs) for mine, theirs in zip(one, other)])
    return isinstance(one, bool) == isinstance(other, bool) and one == other


def means_something(rooms, name):
    """Whether any object is a name that means something."""
    return isinstance(name, str) and name in rooms.means


def check_means(rooms, name):
    """Raise NoName for any object that means nothing."""
    if not means_something(rooms, name):
        raise NoName(name)


def names_within(thing):
    """The names of which a thing is made."""
    return [] if isinstance(thing, Part) else list(thing[0])


def users_in(means, name):
    """The ascending list of the names of nets that name a name, or name a net that does."""
    pairs = [(inner, user) for user, thing in means.items() for inner in names_within(thing)]
    return [user for user in spread(pairs, [name]) if user != name]


def whole_in(rooms, name):
    """The part that a name means."""
    thing = rooms.means[name]
    if isinstance(thing, Part):
        return thing
    if name not in rooms.wholes:
        names, links, ins, outs = thing
        rooms.wholes[name] = whole_of([whole_in(rooms, inner) for inner in names], links, ins, outs)
    return rooms.wholes[name]


def names_of_net(rooms, name, thing):
    """The names of which a net that is put is made."""
    if not is_list(thing) or len(thing) != 4 or not is_list(thing[0]) or not thing[0]:
        raise BadThing(thing)
    if not all([is_name(inner) for inner in thing[0]]):
        raise BadThing(thing)
    names = list(thing[0])
    for inner in names:
        if inner not in rooms.means:
            raise NoName(inner)
    users = users_in(rooms.means, name)
    if any([inner == name or inner in users for inner in names]):
        raise InRing(name)
    return names


def read_meaning(rooms, name, thing):
    """A pair: what a name that is put means, the part that this is."""
    if isinstance(thing, Part):
        return thing, thing
    names = names_of_net(rooms, name, thing)
    parts, links, ins, outs = net_of([whole_in(rooms, inner) for inner in names], thing[1], thing[2], thing[3])
    return as_tuples(thing), whole_of(parts, links, ins, outs)


def behind_put(rooms, name, thing):
    """The rooms behind a put, whatever it breaks."""
    if not is_name(name):
        raise BadName(name)
    meaning, part = read_meaning(rooms, name, thing)
    if name in rooms.means:
        ahead = whole_in(rooms, name)
        if len(part.ins()) != len(ahead.ins()) or len(part.outs()) != len(ahead.outs()):
            raise UnlikeDoors()
    means = {other: rooms.means[other] for other in rooms.means}
    means[name] = meaning
    touched = [name] + users_in(means, name)
    wholes = {other: rooms.wholes[other] for other in rooms.wholes if other not in touched}
    if not isinstance(meaning, Part):
        wholes[name] = part
    return Rooms(means, rooms.kept, wholes)


def with_kept(rooms, kept):
    """The rooms with other promises watched."""
    return Rooms(rooms.means, kept, rooms.wholes)
