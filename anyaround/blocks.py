"""Walks gone many times, one behind another, as blocks, however often.

A BLOCK is a pair (items, times): a list of steps, or of what each of them changes, and how often it is gone one time
behind another; None is for ever.
"""

from anyaround.searches import row_along


def need_and_sum(changes):
    """The least number with which one never has less than 0 along changes, and their sum."""
    need = 0
    gain = 0
    for change in changes:
        gain = gain + change
        need = max(need, 0 - gain)
    return need, gain


def need_of_blocks(blocks):
    """A pair: the least number with which one never has less than 0 along blocks of changes, None if none is enough.

    Behind it stands their sum, where they have an end.
    """
    need = 0
    gain = 0
    for changes, times in blocks:
        least, more = need_and_sum(changes)
        if times is None:
            return (None if more < 0 else max(need, least - gain)), None
        if times > 0:
            # Where each round loses the last one needs most.
            last = gain + min(0, (times - 1) * more)
            need = max(need, least - last)
            gain = gain + times * more
    return need, gain


def rounds_ahead(changes, times, stock):
    """How often changes can be gone, of so many times, until one has less than 0 in them; None for never."""
    least, more = need_and_sum(changes)
    if times == 0 or (stock >= least and more >= 0):
        return None
    rounds = 0 if stock < least else (stock - least) // (0 - more) + 1
    return rounds if times is None or rounds < times else None


def first_under(blocks, stock):
    """The least number of changes behind which one who begins with a stock has less than 0, None for none."""
    if stock < 0:
        return 0
    gone = 0
    for changes, times in blocks:
        rounds = rounds_ahead(changes, times, stock)
        if rounds is not None:
            stock = stock + rounds * sum(changes)
            gone = gone + rounds * len(changes)
            for change in changes:
                stock = stock + change
                gone = gone + 1
                if stock < 0:
                    return gone
        if times is None:
            return None
        stock = stock + times * sum(changes)
        gone = gone + times * len(changes)
    return None


def triple_of(steps, times):
    """The amounts, the ticks and the change of steps, gone so many times, in a list."""
    first, second, ticks = row_along(steps)
    return [times * first, times * second, times * ticks, times * sum([step[4] for step in steps])]


def as_sum(parts):
    """The triple (amounts, ticks, change) of what lists have together."""
    first, second, ticks, change = [sum([part[k] for part in parts]) for k in range(4)]
    return (first, second), ticks, change


def sum_of_first(blocks, number):
    """The triple (amounts, ticks, change) of the first so many steps of blocks of steps."""
    parts = [[0, 0, 0, 0]]
    for steps, times in blocks:
        if steps and number > 0:
            rounds = number // len(steps)
            if times is not None and rounds >= times:
                parts.append(triple_of(steps, times))
                number = number - times * len(steps)
            else:
                parts.append(triple_of(steps, rounds))
                parts.append(triple_of(steps[:number - rounds * len(steps)], 1))
                number = 0
    return as_sum(parts)


def step_at(blocks, number):
    """The step with a number, from 0 on, of blocks of steps with an end, None if there are no so many."""
    for steps, times in blocks:
        if number < times * len(steps):
            return steps[number % len(steps)]
        number = number - times * len(steps)
    return None
