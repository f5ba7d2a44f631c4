"""Forms of the kinds "budgets" and "prices" beside one another: what shows that one is never worse, or where it is."""

from anyaround.checks import is_integers, is_list, undivided
from anyaround.cones import QUARTER, mix_of_two, point_above
from anyaround.ratepapers import is_mix_of


def pair_upto(pairs, target):
    """The first of pairs that is at most another pair, None if there is none."""
    for pair in pairs:
        if pair[0] <= target[0] and pair[1] <= target[1]:
            return pair
    return None


def gaps_above(pairs, target):
    """What each of pairs has above another pair."""
    return [(pair[0] - target[0], pair[1] - target[1], 0) for pair in pairs]


def prices_above_all(pairs, target):
    """Prices at which each of pairs costs more than another pair, None if there are none."""
    found = point_above(QUARTER, gaps_above(pairs, target))
    if found is None:
        return None
    return undivided(found[:2])


def worse_door(kind, pairs, target):
    """The budget or the prices at which no pair is as good as another one, None if there are none."""
    if kind == "prices":
        return prices_above_all(pairs, target)
    return target if pair_upto(pairs, target) is None else None


def costs_worse(kind, one, other):
    """A surrounding in which the worth of the one form is worse than that of the other one, None if there is none."""
    for i in range(len(one)):
        for j in range(len(one[i])):
            for target in other[i][j]:
                found = worse_door(kind, one[i][j], target)
                if found is not None:
                    return i, j, found
    return None


def paper_for(kind, pairs, target):
    """What shows that pairs are as good as another pair, where they are."""
    if kind == "budgets":
        return pair_upto(pairs, target)
    return mix_of_two(pairs, gaps_above(pairs, target))


def costs_papers(kind, one, other):
    """What shows that the one form is never worse than the other one, where it is so."""
    found = []
    for mine, theirs in zip(one, other):
        found.append([[paper_for(kind, pairs, target) for target in targets] for pairs, targets in zip(mine, theirs)])
    return found


def is_paper_for(kind, pairs, target, thing):
    """Whether any object shows that pairs are as good as another pair."""
    if kind == "budgets":
        return is_integers(thing, 2) and tuple(thing) in pairs and pair_upto([thing], target) is not None
    if not is_mix_of(pairs, 2, thing):
        return False
    many = sum(list(thing.values()))
    return all([sum([pair[k] * weight for pair, weight in thing.items()]) <= many * target[k] for k in (0, 1)])


def are_costs_papers(kind, one, other, thing):
    """Whether any object shows that the one form is never worse than the other one."""
    if not is_list(thing) or len(thing) != len(one):
        return False
    for mine, theirs, paper in zip(one, other, thing):
        if not is_list(paper) or len(paper) != len(mine):
            return False
        for pairs, targets, shown in zip(mine, theirs, paper):
            if not is_list(shown) or len(shown) != len(targets):
                return False
            if not all([is_paper_for(kind, pairs, target, one_shown) for target, one_shown in zip(targets, shown)]):
                return False
    return True
