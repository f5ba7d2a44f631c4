"""Chains of parts, each behind the one ahead: stairs behind stairs, and what is done many times over."""

from anyaround.climbs import most_by


def with_gain(need, gain, further):
    """A pair of stairs with a need, and two gains together; None is more than all."""
    return need, None if gain is None or further is None else gain + further


def stairs_behind(one, other):
    """The stairs of one part, and then of another one."""
    found = []
    k = 0
    for number, (need, gain) in enumerate(one):
        if gain is None:
            return found + ([(need, None)] if other else [])
        # Of the other stairs the first k ones can be gone with what one has behind the first ones.
        while k < len(other) and other[k][0] <= need + gain:
            k = k + 1
        if k > 0:
            found.append(with_gain(need, gain, other[k - 1][1]))
        while k < len(other) and (number + 1 == len(one) or other[k][0] < one[number + 1][0] + gain):
            found.append(with_gain(other[k][0] - gain, gain, other[k][1]))
            k = k + 1
        if found and found[-1][1] is None:
            return found
    return found


def least_for(pairs, wanted):
    """The least stock with which one comes out of stairs with at least wanted, None if there is none."""
    needs = [need if gain is None else max(need, wanted - gain) for need, gain in pairs]
    return min(needs, default=None)


def lesser(one, other):
    """The lesser one of two numbers; None is more than all."""
    if one is None or other is None:
        return other if one is None else one
    return min(one, other)


def stays_behind(one, other):
    """What the kind "on" sees of one part, and then of another one; each is a pair (stay, stairs)."""
    stay = one[0]
    if other[0] is not None:
        stay = lesser(stay, least_for(one[1], other[0]))
    pairs = stairs_behind(one[1], other[1])
    return stay, [pair for pair in pairs if stay is None or pair[0] < stay]


def many_times(thing, many, join):
    """A thing joined with itself, so that there are so many of it; join tells of two things the joined one."""
    found = None
    while many > 0:
        if many & 1:
            found = thing if found is None else join(found, thing)
        many = many >> 1
        if many > 0:
            thing = join(thing, thing)
    return found


def rounds_until(stock, pairs, number):
    """How often one goes the pair with a number until another one holds, None if it holds for ever."""
    need, gain = pairs[number]
    if gain < 0:
        return (stock - need) // (0 - gain) + 1
    if gain == 0 or number + 1 == len(pairs):
        return None
    return 0 - (stock - pairs[number + 1][0]) // gain


def number_at(pairs, stock):
    """The number of the last pair whose need is at most a stock, -1 if there is none."""
    return len([pair for pair in pairs if pair[0] <= stock]) - 1


def out_of_many(pairs, many, stock):
    """The greatest stock behind so many stairs, None if there is no greatest, -1 if one can not go them."""
    while many > 0:
        number = number_at(pairs, stock)
        if number < 0 or pairs[number][1] is None:
            return most_by(pairs, stock)
        rounds = rounds_until(stock, pairs, number)
        rounds = many if rounds is None else min(many, rounds)
        stock = stock + rounds * pairs[number][1]
        many = many - rounds
    return stock


def times_gone(pairs, stock):
    """How often one can go stairs with a stock, None if any number of times."""
    many = 0
    number = number_at(pairs, stock)
    while number >= 0:
        if pairs[number][1] is None or pairs[number][1] >= 0:
            return None
        rounds = rounds_until(stock, pairs, number)
        many = many + rounds
        stock = stock + rounds * pairs[number][1]
        number = number_at(pairs, stock)
    return many
