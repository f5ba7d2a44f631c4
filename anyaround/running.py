"""Walks that are run: ever longer turns round rings of a mix, and walks that a chooser chooses."""

from math import gcd, lcm

from anyaround.checks import check_place, check_stock, is_integer, is_list
from anyaround.legs import check_number
from anyaround.ratepapers import is_mix_of
from anyaround.refusals import BadChooser, BadMix
from anyaround.ringrows import lot_rows, lots_ahead, ring_told
from anyaround.searches import leaving, row_along
from anyaround.webs import read_step


def read_found(web, place, thing):
    """A pair: a dict from the rows of a lot that is reached to rings, a mix of them; None for any object that is none.

    The rings are told as ring_told takes them.
    """
    if not is_list(thing) or len(thing) != 2 or not is_list(thing[0]):
        return None
    lot = [one for one in thing[0] if is_integer(one)]
    for places, steps in lots_ahead(web, place):
        if lot == places and len(thing[0]) == len(lot):
            rows = lot_rows(web, places, steps)
            return (rows, thing[1]) if is_mix_of(rows, 3, thing[1]) else None
    return None


def times_in(ring):
    """How often its row fits into a ring."""
    first, second, ticks = row_along(ring)
    return gcd(gcd(first, second), ticks)


def times_each(rings, mix):
    """A dict from the rows of a mix, ascending, to how often their rings are gone in the first turn."""
    fits = {row: times_in(rings[row]) for row in rings}
    common = 1
    for row in mix:
        common = lcm(common, fits[row] // gcd(fits[row], mix[row]))
    return {row: common * mix[row] // fits[row] for row in sorted(mix)}


def walk_between(web, place, end):
    """A walk from a place to another one that comes into no place twice."""
    ahead = leaving(web.steps())
    came = {place: None}
    todo = [place]
    while end not in came:
        later = []
        for one in todo:
            for step in ahead.get(one, []):
                if step[1] not in came:
                    came[step[1]] = step
                    later.append(step[1])
        todo = later
    walk = []
    while end != place:
        walk.append(came[end])
        end = came[end][0]
    return list(reversed(walk))


def turning(web, place, found, turns):
    """Legs of so many turns, each longer than the one ahead, whose rates settle at those of a mix."""
    check_place(web, place)
    read = read_found(web, place, found)
    if read is None:
        raise BadMix(found)
    check_number(turns)
    rows, mix = read
    rings = {row: ring_told(rows[row]) for row in mix}
    times = times_each(rings, mix)
    legs = []
    for turn in range(1, turns + 1):
        for row, many in times.items():
            begin = rings[row][0][0]
            legs.append((walk_between(web, place, begin), 1))
            legs.append((list(rings[row]), turn * many))
            place = begin
    return legs


def answered(web, ahead, answer):
    """The step that an answer of a chooser is, None if it is none of those ahead."""
    step = read_step(web.places(), answer)
    return step if step in ahead else None


def gone(sums, step):
    """The triple (amounts, ticks, stock) behind a step."""
    (first, second), ticks, stock = sums
    amounts = (first + step[2][0], second + step[2][1])
    return amounts, ticks + step[3], None if stock is None else stock + step[4]


def check_chooser(chooser):
    """Raise BadChooser for what is no function."""
    if chooser is None or isinstance(chooser, (int, str, list, tuple, dict)):
        raise BadChooser(chooser)


def chosen(web, place, stock, chooser, steps):
    """A triple: the walk that a chooser chooses step by step, what it has in the end, what ended it."""
    check_place(web, place)
    if stock is not None:
        check_stock(stock)
    check_chooser(chooser)
    check_number(steps)
    leading = leaving(web.steps())
    walk = []
    sums = ((0, 0), 0, stock)
    while len(walk) < steps:
        ahead = leading.get(place, [])
        if not ahead:
            return walk, sums, "end"
        step = answered(web, ahead, chooser(place, sums))
        if step is None:
            return walk, sums, "odd"
        walk.append(step)
        sums = gone(sums, step)
        place = step[1]
        if stock is not None and sums[2] < 0:
            return walk, sums, "below"
    return walk, sums, None
