"""What it costs from door to door, where no amount is below 0: passes within budgets, and what shows that none is."""

from heapq import heappop, heappush

from anyaround.checks import checked_prices, is_integer, is_integers, is_list, is_number
from anyaround.errors import BadBound, BadBudget, HasBelow
from anyaround.hulls import alone
from anyaround.parts import check_door
from anyaround.searches import cost_of, leaving, least_sums
from anyaround.webs import reached


def first_below(part):
    """The first step of a part that has an amount below 0, None if there is none."""
    for step in part.web().steps():
        if min(step[2]) < 0:
            return step
    return None


def check_amounts(part):
    """Raise HasBelow for a part with an amount below 0."""
    step = first_below(part)
    if step is not None:
        raise HasBelow(step)


def tracks_from(steps, place):
    """The list of the walks from a place to which, at their ends, no other walk's unlike amounts are at most.

    Each is a tuple (first, second, end, number, step): its amounts, where it ends, the number of the walk without its
    last step, this step. One of like amounts is enough, and all of them are simple.
    """
    ahead = leaving(steps)
    found = []
    least = {}
    queue = [(0, 0, place, -1, ())]
    while queue:
        track = heappop(queue)
        first, second, end, _, _ = track
        # The first amounts rise, so who comes later has to have less of the second one.
        if end not in least or second < least[end]:
            least[end] = second
            for step in ahead.get(end, []):
                further = (first + step[2][0], second + step[2][1], step[1], len(found), step)
                if step[1] not in least or further[1] < least[step[1]]:
                    heappush(queue, further)
            found.append(track)
    return found


def tracks_known(part, door):
    """The tracks from the place of an in door, which are kept with the part."""
    key = ("tracks", door)
    if key not in part.known:
        part.known[key] = tracks_from(part.web().steps(), part.ins()[door])
    return part.known[key]


def front_of(part, i, j):
    """The front of an in door and an out door."""
    end = part.outs()[j]
    return [(track[0], track[1]) for track in tracks_known(part, i) if track[2] == end]


def hull_of(front):
    """Those pairs of a front that are alone at some prices."""
    return [(first, second) for first, second, _ in alone([(pair[0], pair[1], 1) for pair in front])]


def read_bounds(thing):
    """A budget, a pair of numbers or None, as a tuple; None for what is none."""
    if not is_list(thing) or len(thing) != 2:
        return None
    if not all([bound is None or is_number(bound) for bound in thing]):
        return None
    return tuple(thing)


def is_within(pair, bounds):
    """Whether neither amount of a pair is more than the bound beside it."""
    return all([bound is None or amount <= bound for amount, bound in zip(pair, bounds)])


def checked_bounds(part, i, j, budget):
    """The bounds of a budget, behind all that is to be refused."""
    check_amounts(part)
    check_door(part.ins(), i)
    check_door(part.outs(), j)
    bounds = read_bounds(budget)
    if bounds is None:
        raise BadBudget(budget)
    return bounds


def walk_along(tracks, track):
    """The walk that a track tells."""
    walk = []
    while track[3] >= 0:
        walk.append(track[4])
        track = tracks[track[3]]
    return list(reversed(walk))


def pass_within(part, i, j, budget):
    """A simple pass from in door i to out door j within a budget, None if there is none."""
    bounds = checked_bounds(part, i, j, budget)
    tracks = tracks_known(part, i)
    for track in tracks:
        if track[2] == part.outs()[j] and is_within(track, bounds):
            return walk_along(tracks, track)
    return None


def bars(part, i, j, budget):
    """Bars for an in door, an out door and a budget, None if there are none."""
    bounds = checked_bounds(part, i, j, budget)
    if any([is_within(pair, bounds) for pair in front_of(part, i, j)]):
        return None
    found = {place: [] for place in reached(part.web(), part.ins()[i])}
    for track in tracks_known(part, i):
        found[track[2]].append((track[0], track[1]))
    return found


def is_upto_some(pairs, first, second):
    """Whether some of pairs is at most a pair."""
    return any([pair[0] <= first and pair[1] <= second for pair in pairs])


def leads_to_pairs(thing, places):
    """Whether any object is a dict from just these places to lists, not empty, of pairs of numbers."""
    if not isinstance(thing, dict) or len(thing) != len(places):
        return False
    if not all([is_integer(key) for key in thing]):
        return False
    for place in places:
        pairs = thing.get(place)
        if not is_list(pairs) or not pairs:
            return False
        if not all([is_integers(pair, 2) and min(pair) >= 0 for pair in pairs]):
            return False
    return True


def is_bars(part, i, j, budget, thing):
    """Whether any object is bars for an in door, an out door and a budget."""
    bounds = checked_bounds(part, i, j, budget)
    place = part.ins()[i]
    if not leads_to_pairs(thing, reached(part.web(), place)):
        return False
    if (0, 0) not in [tuple(pair) for pair in thing[place]]:
        return False
    for one, other, amounts, _, _ in part.web().steps():
        for pair in thing.get(one, []):
            if not is_upto_some(thing[other], pair[0] + amounts[0], pair[1] + amounts[1]):
                return False
    return not any([is_within(pair, bounds) for pair in thing.get(part.outs()[j], [])])


def checked_bound(part, i, j, prices, bound):
    """Prices as a pair, behind all that is to be refused."""
    check_amounts(part)
    check_door(part.ins(), i)
    check_door(part.outs(), j)
    pair = checked_prices(prices)
    if not is_integer(bound):
        raise BadBound(bound)
    return pair


def pass_upto(part, i, j, prices, bound):
    """A simple pass from in door i to out door j that costs at most bound, None if there is none."""
    pair = checked_bound(part, i, j, prices, bound)
    tracks = tracks_known(part, i)
    for track in tracks:
        if track[2] == part.outs()[j] and cost_of(pair, track) <= bound:
            return walk_along(tracks, track)
    return None


def heights_over(part, i, j, prices, bound):
    """Heights in which out door j is more than bound above in door i, or is not there; None if there are none."""
    pair = checked_bound(part, i, j, prices, bound)
    steps = part.web().steps()
    found, _ = least_sums(steps, [cost_of(pair, step[2]) for step in steps], part.ins()[i])
    end = part.outs()[j]
    if end in found and found[end] <= bound:
        return None
    return found
