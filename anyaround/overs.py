"""What holes cost above wishes: overs, the keys to which they belong, and what is asked at prices."""

from anyaround.checks import is_integer, is_integers, undivided
from anyaround.cones import QUARTER, cut_above, least_points, minus, mix_of_two, point_above
from anyaround.forms import form_of
from anyaround.passes import least_of
from anyaround.ratepapers import above_rate


def over_of(kind, wish, row):
    """The over of a row, or of a pair, as a triple with 0 behind."""
    if kind == "rates":
        return above_rate(row, wish)
    return row[0] - wish[0], row[1] - wish[1], 0


def together(rows):
    """The sum of rows of one length."""
    return tuple([sum([row[k] for row in rows]) for k in range(len(rows[0]))])


def rates_keys(context, filler):
    """The keys of the kind "rates", with the sums of their rows."""
    free, (_, ahead) = form_of(context, "rates")[0]
    behind, (_, round_about) = form_of(context, "rates")[1]
    inside, (passes,) = form_of(filler, "rates")[0]
    found = {("free", row): row for row in free}
    if ahead:
        for row in inside:
            found[("inside", row)] = row
        for row in behind if passes else []:
            found[("behind", row)] = row
        for row in passes:
            for other in round_about:
                found[("again", row, other)] = together([row, other])
    return found


def prices_keys(context, filler):
    """The keys of the kind "prices", with the sums of their rows."""
    (straight, ahead), (behind, _) = form_of(context, "prices")
    found = {("free", row): row for row in straight}
    for one in ahead:
        for row in form_of(filler, "prices")[0][0]:
            for other in behind:
                found[("through", one, row, other)] = together([one, row, other])
    return found


def overs_of(context, kind, wish, filler):
    """The overs of all keys, by the keys."""
    found = rates_keys(context, filler) if kind == "rates" else prices_keys(context, filler)
    return {key: over_of(kind, wish, row) for key, row in found.items()}


def mix_below(overs):
    """A mix of at most two keys whose overs come to at most 0, None if there is none."""
    keys = list(overs)
    return mix_of_two(keys, [overs[key] for key in keys])


def prices_above(overs):
    """Prices at which all overs are above 0, None if there are none."""
    found = point_above(QUARTER, list(overs.values()))
    return None if found is None else undivided(found[:2])


def is_key(overs, thing):
    """Whether any key of a dict is one of overs; True and False are no integers."""
    if not isinstance(thing, tuple) or thing not in overs:
        return False
    return all([is_integers(row, len(row)) for row in thing[1:]])


def is_mix_below(overs, thing):
    """Whether any object is a mix of keys whose overs come to at most 0."""
    if not isinstance(thing, dict) or not thing or not all([is_key(overs, key) for key in thing]):
        return False
    if not all([is_integer(weight) and weight >= 1 for weight in thing.values()]):
        return False
    return all([sum([overs[key][k] * weight for key, weight in thing.items()]) <= 0 for k in (0, 1)])


def stretch(overs):
    """The two rim prices between which no over is below, that nearer to (1, 0) first; [] if there are none."""
    rays = list(QUARTER)
    for over in overs:
        rays = cut_above(rays, over)
    if rays and rays[0][0] * rays[1][1] < rays[1][0] * rays[0][1]:
        return [rays[1], rays[0]]
    return rays


def greatest_points(rays, points):
    """Those of points that come, somewhere between two rays, to more than all others, ascending."""
    turned = [(0 - first, 0 - second, 0) for first, second in points]
    found = least_points(rays, lambda ray: least_of(turned, ray))
    return sorted([(0 - first, 0 - second) for first, second, _ in found])


def told_stretch(rays, points):
    """What is asked between two rays, where points are the greatest sums that may be paid."""
    low, high = rays
    return low[:2], high[:2], greatest_points(rays, points)


def ask_rates(context, wish):
    """What is asked for the kind "rates"."""
    free, (_, ahead) = form_of(context, "rates")[0]
    behind, (_, round_about) = form_of(context, "rates")[1]
    overs = [above_rate(row, wish) for row in free]
    if not stretch(overs):
        return True
    if not ahead:
        return None
    rays = stretch(overs + [above_rate(row, wish) for row in behind])
    if not rays:
        return ()
    points = {}
    for row in round_about:
        over = above_rate(row, wish)
        points[(0 - over[0], 0 - over[1])] = True
    return told_stretch(rays, list(points))


def ask_prices(context, wish):
    """What is asked for the kind "prices"."""
    (straight, ahead), (behind, _) = form_of(context, "prices")
    rays = stretch([over_of("prices", wish, row) for row in straight])
    if not rays:
        return True
    points = {}
    for one in ahead:
        for other in behind:
            points[(wish[0] - one[0] - other[0], wish[1] - one[1] - other[1])] = True
    # A filler costs nothing at the least.
    if not points or point_above(rays, [(0 - first, 0 - second, 0) for first, second in points]) is not None:
        return None
    return told_stretch(rays, list(points))


def is_enough_over(ask, over):
    """Whether an over alone keeps what was asked for at prices."""
    if ask == ():
        return True
    low, high, points = ask
    planes = [minus(over, (first, second, 0)) for first, second in points]
    return point_above([(low[0], low[1], 0), (high[0], high[1], 0)], planes) is None
