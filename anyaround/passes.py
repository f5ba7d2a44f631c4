"""The passes of parts, as rates see them: what is inside at an in door, and the pass rows that count there."""

from anyaround.checks import undivided
from anyaround.cones import least_points
from anyaround.hulls import even_prices, neighbours
from anyaround.parts import check_door
from anyaround.ringrows import lines_ahead
from anyaround.searches import cost_of, in_reach


def corner_at(prices, row):
    """The corner at prices at which a row is a cheapest one per tick."""
    return undivided((prices[0] * row[2], prices[1] * row[2], 0 - cost_of(prices, row)))


def corners_of(rows):
    """The list of the triples that bound what is inside where these are all rows that are alone."""
    if not rows:
        return [(1, 0, 0), (0, 1, 0), (0, 0, 1), (0, 0, -1)]
    found = [corner_at((1, 0), rows[0])]
    for low, high in neighbours(rows):
        found.append(corner_at(even_prices(low, high), low))
    return found + [corner_at((0, 1), rows[-1]), (0, 0, 1)]


def corners(part, door):
    """The list of the triples that bound what is inside at an in door."""
    check_door(part.ins(), door)
    return corners_of(lines_ahead(part.web(), part.ins()[door]))


def inside(rows, most):
    """The rays of what is inside, where no two points in question are further apart than most in an amount.

    Without rows any tick price is inside; but beyond that at which a tick weighs more than all amounts nothing new is
    to be seen, so that the cone is cut off there.
    """
    if rows:
        return corners_of(rows)
    far = most + 1
    return [(1, 0, far), (1, 0, 0 - far), (0, 1, 0 - far), (0, 1, far)]


def spread_of(points):
    """A bound for how far points are apart in an amount."""
    return 2 * max([0] + [max(abs(point[0]), abs(point[1])) for point in points])


def least_came(arrows, place, ray):
    """The arrows by which one comes for the least, at a ray, to each place; arrows are (one, other, row)."""
    first, second, third = ray
    weighted = [(one, other, first * row[0] + second * row[1] + third * row[2], row) for one, other, row in arrows]
    sums = {place: 0}
    came = {}
    changed = True
    # Inside no ring comes to less than 0, so this ends.
    while changed:
        changed = False
        for one, other, weight, row in weighted:
            if one in sums:
                through = sums[one] + weight
                if other not in sums or through < sums[other]:
                    sums[other] = through
                    came[other] = (one, row)
                    changed = True
    return came


def row_back(came, place, end):
    """The row of the walk from a place to an end that came tells, None if it tells none."""
    if end not in came:
        return None
    first = 0
    second = 0
    ticks = 0
    while end != place:
        end, row = came[end]
        first = first + row[0]
        second = second + row[1]
        ticks = ticks + row[2]
    return first, second, ticks


def came_at(arrows, place, ray, known):
    """The same as least_came, kept in known, as several ends ask for it."""
    if ray not in known:
        known[ray] = least_came(arrows, place, ray)
    return known[ray]


def least_row(arrows, place, end, known):
    """A function that tells of a ray the least row from a place to an end."""
    return lambda ray: row_back(came_at(arrows, place, ray, known), place, end)


def pass_rows(part, door):
    """The pair of the rows at an in door that are alone, and the list, by out doors, of the pass rows that count."""
    place = part.ins()[door]
    rows = lines_ahead(part.web(), place)
    steps = in_reach(part.web().steps(), place)
    arrows = [(step[0], step[1], (step[2][0], step[2][1], step[3])) for step in steps]
    # No pass that counts goes a step twice.
    most = 2 * sum([abs(row[0]) + abs(row[1]) for _, _, row in arrows])
    rays = inside(rows, most)
    known = {}
    return rows, [least_points(rays, least_row(arrows, place, end, known)) for end in part.outs()]


def counting(points, rows):
    """The ascending list of those points that count where these are all rows that are alone."""
    return least_points(inside(rows, spread_of(points)), lambda ray: least_of(points, ray))


def least_of(points, ray):
    """The first of points that is least at a ray, None if there are no points."""
    best = None
    least = None
    for point in points:
        sum_there = point[0] * ray[0] + point[1] * ray[1] + point[2] * ray[2]
        if least is None or sum_there < least:
            best = point
            least = sum_there
    return best
