"""The stairs to a place from all places, found by going back from it, walk by walk.

A CLIMB is a walk to that place, told by a tuple (place, need, gain, seen, step, behind): where it begins, what it
needs and gains (None without end: it goes round a ring that gains), the places it comes into, as bits, its first step,
and the number of the climb behind that step, None if there is none.
"""

from anyaround.blocks import need_and_sum


def need_round(climbs, number, step):
    """The least stock with which one can go a step and then a climb, up to where the step begins."""
    place = step[0]
    need = max(0, 0 - step[4])
    gain = step[4]
    while climbs[number][0] != place:
        step = climbs[number][4]
        number = climbs[number][5]
        gain = gain + step[4]
        need = max(need, 0 - gain)
    return need


def is_beaten(kept, need, gain):
    """Whether some of kept climbs of a place needs no more and gains no less."""
    for other in kept:
        if other[1] <= need and (other[2] is None or (gain is not None and other[2] >= gain)):
            return True
    return False


def not_beaten(kept, need, gain):
    """Those of kept climbs that need less, or gain more."""
    return [other for other in kept
            if other[1] < need or (gain is not None and (other[2] is None or other[2] > gain))]


def longer_climb(climbs, number, step):
    """A climb with a step ahead of it."""
    _, need, gain, seen, _, _ = climbs[number]
    bit = 1 << step[0]
    if seen & bit:
        # What was there and is not beaten yet went round a ring that gains, and one can go round it again and again.
        return step[0], need_round(climbs, number, step), None, bit, step, number
    need = max(0, need - step[4])
    return step[0], need, None if gain is None else gain + step[4], seen | bit, step, number


def climbs_to(into, place):
    """A pair: the list of climbs to a place, and those that no others beat, by the places where they begin.

    into leads from places to the steps that end there.
    """
    climbs = [(place, 0, 0, 1 << place, None, None)]
    kept = {place: [climbs[0]]}
    number = 0
    while number < len(climbs):
        one, need, gain, _, _, _ = climbs[number]
        if climbs[number] in kept[one]:
            for step in into.get(one, []):
                more = None if gain is None else gain + step[4]
                others = kept.get(step[0], [])
                if not is_beaten(others, max(0, need - step[4]), more):
                    climb = longer_climb(climbs, number, step)
                    kept[step[0]] = not_beaten(others, climb[1], climb[2]) + [climb]
                    climbs.append(climb)
        number = number + 1
    return climbs, kept


def climbs_known(web, place):
    """The climbs to a place, as climbs_to tells them; they are kept with the web."""
    key = ("climbs", place)
    if key not in web.known:
        into = {}
        for step in web.steps():
            into.setdefault(step[1], []).append(step)
        web.known[key] = climbs_to(into, place)
    return web.known[key]


def stairs_to(web, place):
    """The stairs to a place, by the places from which one can come there; they are kept with the web."""
    key = ("stairs", place)
    if key not in web.known:
        _, kept = climbs_known(web, place)
        web.known[key] = {one: sorted([(climb[1], climb[2]) for climb in kept[one]]) for one in kept}
    return web.known[key]


def most_by(pairs, stock):
    """The greatest stock behind stairs, None if there is no greatest, -1 if one can not go them with a stock."""
    told = -1
    for need, gain in pairs:
        if need <= stock:
            told = None if gain is None else stock + gain
    return told


def steps_until_round(climbs, climb):
    """A pair: the steps of a climb up to where it goes round, or to its end; the climb from there."""
    walk = []
    while climb[5] is not None and (climb[2] is not None or climb[3] != 1 << climb[0]):
        walk.append(climb[4])
        climb = climbs[climb[5]]
    return walk, climb


def round_and_rest(climbs, climb):
    """A pair: the ring round which a climb goes that begins with it, the walk behind it."""
    ring = [climb[4]]
    behind = climbs[climb[5]]
    while behind[0] != climb[0]:
        ring.append(behind[4])
        behind = climbs[behind[5]]
    rest = []
    while behind[5] is not None:
        rest.append(behind[4])
        behind = climbs[behind[5]]
    return ring, rest


def need_and_gain(walk):
    """The pair (need, gain) of a walk."""
    return need_and_sum([step[4] for step in walk])


def walk_of_climb(climbs, climb, stock, wanted):
    """A walk by a climb that can be gone with a stock, and that ends with at least what is wanted."""
    walk, last = steps_until_round(climbs, climb)
    if last[5] is None:
        return walk
    ring, rest = round_and_rest(climbs, last)
    need, gain = need_and_gain(rest)
    lacking = max(need, wanted - gain) - stock - need_and_gain(walk)[1]
    each = need_and_gain(ring)[1]
    return walk + ring * max(0, 0 - (0 - lacking) // each) + rest


def way_by_climbs(web, place, end, stock, wanted):
    """A walk from a place to an end that can be gone with a stock and ends with at least wanted, None for none."""
    climbs, kept = climbs_known(web, end)
    found = None
    for climb in kept.get(place, []):
        if climb[1] <= stock and (climb[2] is None or stock + climb[2] >= wanted):
            # A walk that goes round no ring is shorter.
            if found is None or climb[2] is not None:
                found = climb
    if found is None:
        return None
    return walk_of_climb(climbs, found, stock, wanted)
