"""Rows as points, (first by ticks, second by ticks), and the line of those that are cheapest at some prices."""

from math import lcm

from anyaround.checks import undivided


def turn(low, mid, high):
    """Above 0 if mid lies below the line from low to high, which lies to the right of low; 0 if it lies on it."""
    one = low[0] * (mid[1] * high[2] - high[1] * mid[2])
    two = low[1] * (mid[0] * high[2] - high[0] * mid[2])
    return one - two + low[2] * (mid[0] * high[1] - high[0] * mid[1])


def less(row, point, which):
    """Whether a row has less per tick, of the amount with this number, than a point."""
    return row[which] * point[2] < point[which] * row[2]


def is_upto(row, point):
    """Whether a row has per tick in neither amount more than a point."""
    return not less(point, row, 0) and not less(point, row, 1)


def in_order(rows):
    """Unlike rows by what the first amount is per tick, then by the second one."""
    scale = 1
    for row in rows:
        scale = lcm(scale, row[2])
    keyed = [(row[0] * (scale // row[2]), row[1] * (scale // row[2]), row) for row in rows]
    return [row for _, _, row in sorted(keyed)]


def alone(rows):
    """Those of unlike rows that are the only cheapest ones per tick at some prices, in their order."""
    line = []
    for row in in_order(rows):
        if line and not less(row, line[-1], 1):
            continue
        while len(line) > 1 and turn(line[-2], line[-1], row) <= 0:
            line.pop()
        line.append(row)
    return line


def even_prices(low, high):
    """The prices at which two rows cost the same per tick, low having less of the first amount, high of the second."""
    return undivided((low[1] * high[2] - high[1] * low[2], high[0] * low[2] - low[0] * high[2]))


def neighbours(line):
    """The pairs of neighbours in a list."""
    return [(line[k], line[k + 1]) for k in range(len(line) - 1)]


def ascending_mix(weights):
    """A mix with its weights divided and its keys ascending; weights are pairs (row, weight)."""
    small = undivided([weight for _, weight in weights])
    pairs = sorted([(row, weight) for (row, _), weight in zip(weights, small)])
    return {row: weight for row, weight in pairs}


def mix_upto(line, point):
    """A mix of at most two rows that are alone whose sum has per tick in neither amount more than a point, or None."""
    for row in line:
        if is_upto(row, point):
            return {row: 1}
    for low, high in neighbours(line):
        if less(low, point, 0) and less(point, high, 0) and turn(low, point, high) <= 0:
            # Both weights make the first amount per tick just that of the point.
            left = high[0] * point[2] - point[0] * high[2]
            right = point[0] * low[2] - low[0] * point[2]
            return ascending_mix([(low, left), (high, right)])
    return None


def prices_above(line, point):
    """Rim prices at which each of the rows that are alone costs more per tick than a point does, or None."""
    if less(point, line[0], 0):
        return 1, 0
    if less(point, line[-1], 1):
        return 0, 1
    for low, high in neighbours(line):
        # All rows lie on or above the line through two neighbours.
        if turn(low, point, high) > 0:
            return even_prices(low, high)
    return None
