"""Forms of the kind "rates" beside one another: what shows that one is never worse, or where it is."""

from anyaround.checks import is_integer, is_integers, is_list, undivided
from anyaround.cones import QUARTER, dot, minus, mix_of_two, mix_with_last, point_above, shut_at
from anyaround.passes import corners_of, inside, spread_of


def above_rate(row, target):
    """What a row has above another one per tick, of both amounts, as often as the ticks of both tell."""
    return row[0] * target[2] - target[0] * row[2], row[1] * target[2] - target[1] * row[2], 0


def mix_under_row(rows, target):
    """A mix of rows whose sum has, per tick, in neither amount more than a row, None if there is none."""
    return mix_of_two(rows, [above_rate(row, target) for row in rows])


def mix_at_corners(rows, points, corners, target):
    """A mix of points whose mean comes, at each corner, to at most what a point does, None if there is none."""
    planes = [minus(point, target) for point in points]
    gaps = [[dot(plane, corner) for corner in corners] for plane in planes]
    for point, gap in zip(points, gaps):
        if max(gap) <= 0:
            return {point: 1}
    # Where no point inside is above all planes none is above some three of them, the last one that counts among these.
    shut = shut_at(inside(rows, spread_of(points + [target])), planes)
    return None if shut is None else mix_with_last(points[:shut + 1], gaps[:shut + 1])


def dear_prices(rows, target):
    """Prices at which each of rows costs more per tick than a row, None if there are none."""
    found = point_above(QUARTER, [above_rate(row, target) for row in rows])
    if found is None:
        return None
    return undivided(found[:2])


def dear_point(rows, points, target):
    """What is inside, by the rows of an in door, at which each of points comes to more than another one, or None."""
    rays = inside(rows, spread_of(points + [target]))
    return point_above(rays, [minus(point, target) for point in points])


def way_to_part(i, j, point, target):
    """A surrounding with a way back from out door j to in door i by which the row target makes a ring.

    At the prices of the point this ring costs per tick just what is 0 less its tick price.
    """
    first, second, third = point
    times = target[2] // first + 1
    amounts = (0 - target[0] - times * third, 0 - target[1])
    return i, [(j, i, amounts, times * first - target[2], 0)], undivided((first, second))


def rates_worse(one, other):
    """A surrounding in which the worth of the one form is worse than that of the other one, None if there is none."""
    for i in range(len(one)):
        rows, passes = one[i]
        for target in other[i][0]:
            prices = dear_prices(rows, target)
            if prices is not None:
                return i, [], prices
        for j in range(len(passes)):
            for target in other[i][1][j]:
                point = dear_point(rows, passes[j], target)
                if point is not None:
                    return way_to_part(i, j, point, target)
    return None


def rates_papers(one, other):
    """What shows that the one form is never worse than the other one, where it is so."""
    found = []
    for i in range(len(one)):
        rows, passes = one[i]
        corners = corners_of(rows)
        under = [mix_under_row(rows, target) for target in other[i][0]]
        shown = []
        for j in range(len(passes)):
            shown.append([mix_at_corners(rows, passes[j], corners, target) for target in other[i][1][j]])
        found.append((under, shown))
    return found


def is_mix_of(rows, width, thing):
    """Whether any object is a mix of rows, tuples of so many integers."""
    if not isinstance(thing, dict) or not thing:
        return False
    for key in thing:
        if not isinstance(key, tuple) or not is_integers(key, width) or key not in rows:
            return False
    return all([is_integer(weight) and weight >= 1 for weight in thing.values()])


def sum_of_mix(mix):
    """The sum of a mix of triples."""
    return tuple([sum([row[k] * weight for row, weight in mix.items()]) for k in range(3)])


def is_under_row(rows, target, thing):
    """Whether any object is a mix of rows that has per tick in neither amount more than a row."""
    if not is_mix_of(rows, 3, thing):
        return False
    return max(above_rate(sum_of_mix(thing), target)) <= 0


def is_at_corners(points, corners, target, thing):
    """Whether any object is a mix of points whose mean comes, at each corner, to at most what a point does."""
    if not is_mix_of(points, 3, thing):
        return False
    many = sum(list(thing.values()))
    apart = minus(sum_of_mix(thing), (many * target[0], many * target[1], many * target[2]))
    return all([dot(apart, corner) <= 0 for corner in corners])


def is_door_paper(mine, theirs, thing):
    """Whether any object is what papers have of an in door of two forms."""
    if not is_list(thing) or len(thing) != 2:
        return False
    under, shown = thing
    rows, passes = mine
    if not is_list(under) or len(under) != len(theirs[0]) or not is_list(shown) or len(shown) != len(passes):
        return False
    if not all([is_under_row(rows, target, one) for target, one in zip(theirs[0], under)]):
        return False
    corners = corners_of(rows)
    for points, targets, mixes in zip(passes, theirs[1], shown):
        if not is_list(mixes) or len(mixes) != len(targets):
            return False
        if not all([is_at_corners(points, corners, target, one) for target, one in zip(targets, mixes)]):
            return False
    return True


def are_rates_papers(one, other, thing):
    """Whether any object shows that the one form is never worse than the other one."""
    if not is_list(thing) or len(thing) != len(one):
        return False
    return all([is_door_paper(mine, theirs, paper) for mine, theirs, paper in zip(one, other, thing)])
