"""Stairs of parts that nobody can look into, by asking yes and no."""

from anyaround.checks import is_number
from anyaround.errors import BadAnswer, BadGain, BadMost


def answer_of(box, stock, wanted):
    """What a box tells, True or False."""
    found = box(stock, wanted)
    if found is not True and found is not False:
        raise BadAnswer(found)
    return found


def least_need(box, low, most, gain):
    """The least stock above low, to most, with which one gains more than gain, None if the box tells of none.

    A gain None is less than all: any one is more.
    """
    high = most + 1
    while high - low > 1:
        mid = (low + high) // 2
        if answer_of(box, mid, 0 if gain is None else mid + gain + 1):
            high = mid
        else:
            low = mid
    return None if high > most else high


def greatest_gain(box, need, least, gain):
    """The greatest gain with a need, from least to gain, None if it is more than that; it is at least least."""
    low = least
    high = gain + 2
    while high - low > 1:
        mid = (low + high) // 2
        if answer_of(box, need, need + mid):
            low = mid
        else:
            high = mid
    return None if low > gain else low


def learned_stairs(box, most, gain):
    """The stairs of a part, as far as a box tells: with needs to most and gains from 0 less most to gain."""
    if not is_number(most):
        raise BadMost(most)
    if not is_number(gain):
        raise BadGain(gain)
    found = []
    need = least_need(box, -1, most, None)
    while need is not None:
        # That one gains more than with the need ahead was asked already.
        least = found[-1][1] + 1 if found else 0 - need
        found.append((need, greatest_gain(box, need, least, gain)))
        if found[-1][1] is None:
            return found
        need = least_need(box, need, most, found[-1][1])
    return found
