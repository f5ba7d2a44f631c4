"""Chains of many parts with several doors, as rates see them.

A FARE is a triple (weight, cost, ticks) of a pass: what it costs above a rate, what it costs, and its ticks.
"""

from anyaround.chains import many_times
from anyaround.checks import checked_fraction, checked_prices, undivided
from anyaround.copies import check_many
from anyaround.errors import BadForm, BadSurrounding, TooGreat
from anyaround.formparts import checked_form
from anyaround.forms import doors_of
from anyaround.searches import cost_of, least_sums, row_along
from anyaround.surroundings import read_surrounding


def checked_square(thing):
    """A form of the kind "rates" with as many out doors as in doors, of new lists and tuples."""
    found = checked_form(thing, "rates")
    ins, outs = doors_of(found, "rates")
    if ins != outs:
        raise BadForm(thing)
    return found


def fare_of(row, prices, rate):
    """The fare of a pass row."""
    cost = cost_of(prices, row)
    return rate[1] * cost - rate[0] * row[2], cost, row[2]


def fares_of(form, prices, rate):
    """The lists, by in doors, of the lists, by out doors, of the least fares, None where there is no pass."""
    return [[min([fare_of(row, prices, rate) for row in rows], default=None) for rows in passes]
            for _, passes in form]


def fares_behind(one, other):
    """The least fares through one chain and another one behind it."""
    found = []
    for row in one:
        found.append([])
        for out in range(len(row)):
            through = []
            for door, fare in enumerate(row):
                further = other[door][out]
                if fare is not None and further is not None:
                    through.append((fare[0] + further[0], fare[1] + further[1], fare[2] + further[2]))
            found[-1].append(min(through, default=None))
    return found


def often_costs(form, many, prices, rate):
    """The least that passes through a chain of many parts cost above a rate, by in doors and out doors."""
    found = checked_square(form)
    check_many(many)
    pair = checked_prices(prices)
    bounds = checked_fraction(rate)
    for rows, _ in found:
        if any([fare_of(row, pair, bounds)[0] <= 0 for row in rows]):
            raise TooGreat(rate)
    fares = many_times(fares_of(found, pair, bounds), many, fares_behind)
    return [[None if fare is None else fare[0] for fare in row] for row in fares]


def doors_behind(form, doors):
    """The doors of the next part to which one can come from the in doors of a part."""
    return {out: True for door in doors for out, rows in enumerate(form[door][1]) if rows}


def doors_within(form, many, doors):
    """The in doors of any of so many parts to which one can come from the in doors of the first one."""
    met = dict(doors)
    while many > 1 and doors:
        doors = {out: True for out in doors_behind(form, doors) if out not in met}
        met.update(doors)
        many = many - 1
    return met


def doors_first(passable, ways, door):
    """The in doors of the first part to which one can come from one of them, round about the chain."""
    met = {door: True}
    todo = [door]
    while todo:
        one = todo.pop()
        for way in ways:
            if passable[one][way[0]] is not None and way[1] not in met:
                met[way[1]] = True
                todo.append(way[1])
    return met


def rounds_of(form, many, doors, ways, prices, rate):
    """The steps that lead from in door to in door, through the chain and back; their amounts are (cost, 0)."""
    fares = many_times(fares_of(form, prices, rate), many, fares_behind)
    steps = []
    for one in doors:
        for out, other, amounts, ticks, _ in ways:
            fare = fares[one][out]
            if fare is not None:
                steps.append((one, other, (fare[1] + cost_of(prices, amounts), 0), fare[2] + ticks, 0))
    return steps


def above(steps, rate):
    """What such steps cost above a rate."""
    return [rate[1] * step[2][0] - rate[0] * step[3] for step in steps]


def greatest_rate(form, ways, prices):
    """A rate above that of each ring that goes through parts and by ways back."""
    costs = [cost_of(prices, row) for _, passes in form for rows in passes for row in rows]
    return 1 + max([0] + costs + [cost_of(prices, way[2]) for way in ways]), 1


def often_worth(form, many, surrounding):
    """The worth, of the kind "rates", of the chain of many parts in a surrounding."""
    found = checked_square(form)
    check_many(many)
    read = read_surrounding("rates", len(found), len(found), surrounding)
    if read is None:
        raise BadSurrounding(surrounding)
    door, ways, prices = read
    passable = many_times(fares_of(found, prices, (0, 1)), many, fares_behind)
    doors = doors_first(passable, ways, door)
    best = None
    rate = greatest_rate(found, ways, prices)
    for one in doors_within(found, many, doors):
        for row in found[one][0]:
            cost = cost_of(prices, row)
            if best is None or cost * best[1] < best[0] * row[2]:
                best = (cost, row[2])
    ring = []
    while ring is not None:
        rate = rate if best is None else best
        steps = rounds_of(found, many, doors, ways, prices, rate)
        _, ring = least_sums(steps, above(steps, rate), door)
        if ring is not None:
            row = row_along(ring)
            best = (row[0], row[2])
    return None if best is None else undivided(best)
