"""Cones in three numbers that are spanned by rays, in their order round about, what planes leave of them, and mixes.

Who needs two numbers only has 0 for the third one.
"""

from itertools import combinations
from math import gcd

from anyaround.hulls import ascending_mix

QUARTER = ((1, 0, 0), (0, 1, 0))
EIGHTH = ((1, 0, 0), (0, 1, 0), (0, 0, 1))


def dot(one, other):
    """The sum of the products of what stands beside one another."""
    return one[0] * other[0] + one[1] * other[1] + one[2] * other[2]


def minus(one, other):
    """One triple less another one."""
    return one[0] - other[0], one[1] - other[1], one[2] - other[2]


def total(rays):
    """A ray within a cone, away from all of its sides."""
    return (sum([ray[0] for ray in rays]), sum([ray[1] for ray in rays]), sum([ray[2] for ray in rays]))


def between(one, side, other, beyond):
    """The ray in which a plane cuts what lies between two rays, one above it and one below it, as their sides tell."""
    left = abs(beyond)
    right = abs(side)
    ray = (one[0] * left + other[0] * right, one[1] * left + other[1] * right, one[2] * left + other[2] * right)
    common = gcd(gcd(ray[0], ray[1]), ray[2])
    return ray[0] // common, ray[1] // common, ray[2] // common


def cut_at(rays, sides):
    """The rays of what of a cone is not below a plane; sides tell of each ray how far above it is."""
    if min(sides) >= 0:
        return rays
    found = {}
    for k in range(len(rays)):
        if sides[k] * sides[k - 1] < 0:
            found[between(rays[k], sides[k], rays[k - 1], sides[k - 1])] = True
        if sides[k] >= 0:
            found[rays[k]] = True
    return list(found)


def cut(rays, plane):
    """The rays of what of a cone is not below a plane, [] if only nothing is."""
    if not rays:
        return []
    return cut_at(rays, [dot(ray, plane) for ray in rays])


def cut_above(rays, plane):
    """The rays of what of a cone is not below a plane, [] if nothing is above it."""
    sides = [dot(ray, plane) for ray in rays]
    if not rays or max(sides) <= 0:
        return []
    return cut_at(rays, sides)


def point_above(rays, planes):
    """A point of a cone, away from its sides, that is above all planes; None if there is none."""
    for plane in planes:
        rays = cut_above(rays, plane)
    if not rays:
        return None
    return total(rays)


def weights_for(gaps):
    """Weights of at most three lists of gaps that make no sum of them more than 0, None if there are none."""
    rays = list(EIGHTH[:len(gaps)])
    for k in range(len(gaps[0])):
        plane = [0 - gap[k] for gap in gaps] + [0, 0]
        rays = cut(rays, plane)
    if not rays:
        return None
    return rays[0]


def shut_at(rays, planes):
    """The number of the first plane above which nothing lies of what is above those ahead, None if something does."""
    for number, plane in enumerate(planes):
        rays = cut_above(rays, plane)
        if not rays:
            return number
    return None


def mix_with_last(rows, gaps):
    """A mix of at most three rows, the last one among them, that has nothing too much, None if there is none.

    Gaps are lists, one for each row, of what it has too much in one way and another.
    """
    last = len(rows) - 1
    others = list(range(last))
    for chosen in [()] + list(combinations(others, 1)) + list(combinations(others, 2)):
        numbers = list(chosen) + [last]
        weights = weights_for([gaps[k] for k in numbers])
        if weights is not None:
            return ascending_mix([(rows[k], weight) for k, weight in zip(numbers, weights) if weight > 0])
    return None


def steepest(gaps, which):
    """The number of the list of two gaps that has, for each 1 too little of one, the least too much of the other one.

    which tells of which one it has too little; None if none has too little of it.
    """
    best = None
    for number, gap in enumerate(gaps):
        if gap[which] < 0:
            if best is None or gap[1 - which] * gaps[best][which] > gaps[best][1 - which] * gap[which]:
                best = number
    return best


def mix_of_two(rows, gaps):
    """A mix of at most two rows that has nothing too much, None if there is none; gaps are pairs."""
    for row, gap in zip(rows, gaps):
        if gap[0] <= 0 and gap[1] <= 0:
            return {row: 1}
    left = steepest(gaps, 0)
    right = steepest(gaps, 1)
    if left is None or right is None:
        return None
    weights = (gaps[right][0], 0 - gaps[left][0])
    if weights[0] * gaps[left][1] + weights[1] * gaps[right][1] > 0:
        return None
    return ascending_mix([(rows[left], weights[0]), (rows[right], weights[1])])


def first_unasked(cells, asked):
    """The first ray of a cell that was not asked yet, and the point whose cell it is."""
    for point, rays in cells.items():
        for ray in rays:
            if ray not in asked:
                return ray, point
    return None, None


def put_into(cells, rays, point):
    """Give a new point its cell, where it is the least one, and take that from the others."""
    for other in list(cells):
        apart = minus(other, point)
        rays = cut_above(rays, apart)
        left = cut_above(cells[other], (0 - apart[0], 0 - apart[1], 0 - apart[2]))
        if left:
            cells[other] = left
        else:
            del cells[other]
    if rays:
        cells[point] = rays


def least_points(rays, least):
    """The ascending list of the points of which each is somewhere within a cone the only least one.

    least tells of a ray a point that is least there, None if there are no points.
    """
    start = least(total(rays))
    if start is None:
        return []
    cells = {start: list(rays)}
    asked = {}
    ray, point = first_unasked(cells, asked)
    # Where the least found points are least at all rays of their cells they are so between them, too.
    while ray is not None:
        asked[ray] = True
        found = least(ray)
        if dot(ray, found) < dot(ray, point):
            put_into(cells, rays, found)
        ray, point = first_unasked(cells, asked)
    return sorted(cells)
