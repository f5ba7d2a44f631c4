"""What pass rows cost at prices, of a form, and of a part that nobody can look into.

Drawn with ticks to the right and costs upwards the pairs of a slice are corners of a line that is bent upwards. What a
box answers to a way back (x, n) is how steep the steepest line from the point (0 - n, 0 - x) is that stays under all
of them. Corners here are pairs (ticks, cost).
"""

from anyaround.checks import checked_prices, is_integer, is_number, read_fraction, undivided
from anyaround.errors import BadAnswer, BadCost, BadTicks, Unfit
from anyaround.formparts import checked_form
from anyaround.parts import check_door
from anyaround.searches import cost_of


def is_less(one, other):
    """Whether a fraction is less than another one; None is more than all."""
    if one is None or other is None:
        return one is not None
    return one[0] * other[1] < other[0] * one[1]


def least_rate(rows, prices):
    """The least that rows cost per tick, None without rows."""
    best = None
    for row in rows:
        rate = (cost_of(prices, row), row[2])
        if is_less(rate, best):
            best = rate
    return None if best is None else undivided(best)


def is_bent(low, mid, high):
    """Whether a corner lies below the line from one to its left to one to its right."""
    return (mid[1] - low[1]) * (high[0] - low[0]) < (high[1] - low[1]) * (mid[0] - low[0])


def corners_below(points, rate):
    """Those of points that are at some rate below a rate the only least ones, ascending by ticks."""
    line = []
    for point in sorted(points):
        if line and line[-1][0] == point[0]:
            continue
        while len(line) > 1 and not is_bent(line[-2], line[-1], point):
            line.pop()
        line.append(point)
    # What is as steep as the rate, or steeper, is never gone.
    while len(line) > 1 and not is_less((line[-1][1] - line[-2][1], line[-1][0] - line[-2][0]), rate):
        line.pop()
    return line


def told_slice(rate, line):
    """A slice with these corners."""
    return rate, [(cost, ticks) for ticks, cost in line]


def slice_of(form, i, j, prices):
    """The slice of a form of the kind "rates" at an in door, an out door and prices."""
    found = checked_form(form, "rates")
    check_door(found, i)
    check_door(found[i][1], j)
    pair = checked_prices(prices)
    rate = least_rate(found[i][0], pair)
    return told_slice(rate, corners_below([(row[2], cost_of(pair, row)) for row in found[i][1][j]], rate))


def answer_of(box, way):
    """What a box answers, a fraction in lowest terms or None."""
    found = box(way)
    if found is None:
        return None
    read = read_fraction(found)
    if read is None:
        raise BadAnswer(found)
    return read


def worth_by_corners(rate, line, way):
    """What a part with this rate and these corners tells of a way back."""
    best = rate
    for ticks, cost in line:
        through = (cost + way[0], ticks + way[1])
        if is_less(through, best):
            best = through
    return None if best is None else undivided(best)


def points_on(way, rate, bounds):
    """The points within bounds that make with a way back a ring with just this rate."""
    ticks, cost = bounds
    found = []
    for long in range(1, ticks + 1):
        times, rest = divmod(long + way[1], rate[1])
        dear = times * rate[0] - way[0]
        if rest == 0 and abs(dear) <= cost:
            found.append((long, dear))
    return found


def corner_by(answers, line, way, answer, bounds):
    """The corner that an answer shows, which is not what the known corners tell."""
    # All ways that are asked are so long that one point at most lies there; without one the answer itself is not met.
    found = [] if answer is None else points_on(way, answer, bounds)
    for other, told in answers.items():
        if other is not None and worth_by_corners(answers[None], line + found, other) != told:
            raise Unfit(way)
    return found[0]


def shown_by(box, answers, line, way, bounds):
    """The corner that a box shows by a way back, None if it tells what the known corners do; answers grow."""
    answer = answer_of(box, way)
    answers[way] = answer
    if answer == worth_by_corners(answers[None], line, way):
        return None
    return corner_by(answers, line, way, answer, bounds)


def first_way(rate, bounds):
    """A way back that brings in so much that what takes the fewest ticks counts, and of this the cheapest."""
    ticks, cost = bounds
    steep = 0 if rate is None else abs(rate[0])
    return 0 - (2 * cost * (ticks + 1) + cost + steep * (ticks + 1) + 1), 1


def far_way(answers, corner, steep, bounds):
    """A way back from far away on the line through a corner that is so steep; steep is a pair (rise, ticks).

    It is so far away that what lies deeper below the line counts ahead of what is less deep, and of two points that
    are as deep the one that takes fewer ticks; so no two of them can come to the same.
    """
    ticks, cost = bounds
    rise, run = steep
    times = 2 * ticks * (2 * cost * run + ticks * abs(rise)) + ticks + 2
    way = (times * rise - corner[1], times * run - corner[0])
    while way in answers:
        way = (way[0] + rise, way[1] + run)
    return way


def last_way(answers, corner, bounds):
    """A way back that shows the last corner: at a rate just below the least one, or, without one, above all."""
    rate = answers[None]
    if rate is None:
        return 2 * bounds[1] * (bounds[0] + 1) + 1, 1
    return far_way(answers, corner, rate, bounds)


def learned_line(box, bounds):
    """A pair: the rate, and the corners, that a box tells by what it answers."""
    answers = {None: answer_of(box, None)}
    rate = answers[None]
    first = shown_by(box, answers, [], first_way(rate, bounds), bounds)
    if first is None:
        return rate, []
    last = shown_by(box, answers, [first], last_way(answers, first, bounds), bounds)
    line = [first] if last is None else [first, last]
    todo = [] if last is None else [(first, last)]
    while todo:
        low, high = todo.pop()
        way = far_way(answers, low, (high[1] - low[1], high[0] - low[0]), bounds)
        mid = shown_by(box, answers, line, way, bounds)
        if mid is not None:
            line.append(mid)
            todo.append((low, mid))
            todo.append((mid, high))
    return rate, sorted(line)


def learned_slice(box, ticks, cost):
    """The slice of a part that a box stands for, whose pairs have such ticks and such costs at most."""
    if not is_integer(ticks) or ticks < 1:
        raise BadTicks(ticks)
    if not is_number(cost):
        raise BadCost(cost)
    rate, line = learned_line(box, (ticks, cost))
    return told_slice(rate, line)
