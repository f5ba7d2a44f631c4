"""Forms of the kinds "through" and "on" beside one another: what shows that one is never worse, or where it is."""

from anyaround.checks import is_integer, is_list
from anyaround.climbs import most_by


def is_as_good(pair, target):
    """Whether a pair of stairs needs no more than another one and gains no less."""
    if pair[0] > target[0]:
        return False
    return pair[1] is None or (target[1] is not None and pair[1] >= target[1])


def number_as_good(pairs, target):
    """The number of the first of pairs that is as good as another pair, None if there is none."""
    for number, pair in enumerate(pairs):
        if is_as_good(pair, target):
            return number
    return None


def through_worse(one, other):
    """A surrounding in which the worth of the one form is worse than that of the other one, None if there is none."""
    for i in range(len(one)):
        for j in range(len(one[i])):
            for need, gain in other[i][j]:
                if number_as_good(one[i][j], (need, gain)) is None:
                    wanted = most_by(one[i][j], need) + 1 if gain is None else need + gain
                    return i, j, need, wanted
    return None


def through_papers(one, other):
    """What shows that the one form is never worse than the other one, where it is so."""
    found = []
    for mine, theirs in zip(one, other):
        found.append([[number_as_good(pairs, target) for target in targets] for pairs, targets in zip(mine, theirs)])
    return found


def can_stay(stay, stock):
    """Whether one can stay with a stock."""
    return stay is not None and stay <= stock


def on_worse(one, other):
    """A surrounding in which the worth of the one form is worse than that of the other one, None if there is none."""
    for i in range(len(one)):
        stay, passes = one[i]
        if other[i][0] is not None and not can_stay(stay, other[i][0]):
            return i, [], [], other[i][0]
        for j in range(len(passes)):
            for need, gain in other[i][1][j]:
                if not can_stay(stay, need) and number_as_good(passes[j], (need, gain)) is None:
                    return i, [], [(j, need + gain)], need
    return None


def on_papers(one, other):
    """What shows that the one form is never worse than the other one, where it is so."""
    # Where no pair is as good one can stay.
    return through_papers([passes for _, passes in one], [passes for _, passes in other])


def is_number_of(pairs, target, thing):
    """Whether any object is the number of a pair that is as good as another one."""
    return is_integer(thing) and 0 <= thing < len(pairs) and is_as_good(pairs[thing], target)


def are_numbers(stay, mine, theirs, thing):
    """Whether any object is what papers have of an in door: numbers of pairs, or None where one can stay."""
    if not is_list(thing) or len(thing) != len(mine):
        return False
    for pairs, targets, numbers in zip(mine, theirs, thing):
        if not is_list(numbers) or len(numbers) != len(targets):
            return False
        for target, number in zip(targets, numbers):
            if number is None and not can_stay(stay, target[0]):
                return False
            if number is not None and not is_number_of(pairs, target, number):
                return False
    return True


def are_through_papers(one, other, thing):
    """Whether any object shows that the one form is never worse than the other one."""
    if not is_list(thing) or len(thing) != len(one):
        return False
    return all([are_numbers(None, mine, theirs, paper) for mine, theirs, paper in zip(one, other, thing)])


def are_on_papers(one, other, thing):
    """Whether any object shows that the one form is never worse than the other one."""
    if not is_list(thing) or len(thing) != len(one):
        return False
    for (stay, mine), (asked, theirs), paper in zip(one, other, thing):
        if asked is not None and not can_stay(stay, asked):
            return False
        if not are_numbers(stay, mine, theirs, paper):
            return False
    return True
