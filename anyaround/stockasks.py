"""What is asked of a part that is lacking, by stocks and by budgets."""

from anyaround.chains import least_for, lesser
from anyaround.climbs import most_by
from anyaround.forms import form_of
from anyaround.fronts import is_within


def ask_through(context, wish):
    """What is asked for the kind "through"."""
    stock, least = wish
    (straight, ahead), (behind, round_about) = form_of(context, "through")
    most = most_by(straight, stock)
    if most is None or most >= least:
        return True
    there = most_by(ahead, stock)
    if there == -1 or not behind:
        return None
    if there is None:
        return ()
    # Who comes back with more wins as often as it likes.
    return there, lesser(least_for(behind, least), least_for(round_about, there + 1))


def ask_on(context, stock):
    """What is asked for the kind "on"."""
    (stay, (_, ahead)), (further, (_, round_about)) = form_of(context, "on")
    if stay is not None and stay <= stock:
        return True
    there = most_by(ahead, stock)
    if there == -1:
        return None
    # It is enough to come back with no less, or to stay behind.
    return there, lesser(further, least_for(round_about, there))


def left_of(bound, one, other):
    """What is left of a bound behind two amounts."""
    return None if bound is None else bound - one - other


def greatest(bounds):
    """Those of unlike bounds that no others cover, ascending; they bound the same amounts."""
    return sorted([one for one in bounds
                   if not any([other != one and is_within(one, other) for other in bounds])])


def ask_budgets(context, budget):
    """What is asked for the kind "budgets"."""
    (straight, ahead), (behind, _) = form_of(context, "budgets")
    if any([is_within(pair, budget) for pair in straight]):
        return True
    if not ahead or not behind:
        return None
    if budget == (None, None):
        return ()
    left = {}
    for one in ahead:
        for other in behind:
            pair = (left_of(budget[0], one[0], other[0]), left_of(budget[1], one[1], other[1]))
            if all([bound is None or bound >= 0 for bound in pair]):
                left[pair] = True
    return greatest(list(left)) if left else None


def comes_with(pairs, stock, out):
    """Whether one comes out of stairs with at least so much."""
    most = most_by(pairs, stock)
    return most is None or most >= out


def keeps_stock(kind, ask, filler):
    """Whether a filler keeps what was asked for, by stocks."""
    if kind == "through":
        pairs = form_of(filler, kind)[0][0]
        return bool(pairs) if ask == () else comes_with(pairs, ask[0], ask[1])
    stay, (pairs,) = form_of(filler, kind)[0]
    if stay is not None and stay <= ask[0]:
        return True
    return ask[1] is not None and comes_with(pairs, ask[0], ask[1])


def keeps_budget(ask, filler):
    """Whether a filler keeps what was asked for, by budgets."""
    pairs = form_of(filler, "budgets")[0][0]
    if ask == ():
        return bool(pairs)
    return any([is_within(pair, bounds) for pair in pairs for bounds in ask])


def is_enough_stock(ask, row):
    """Whether a pair (need, gain) alone keeps what was asked for, by stocks."""
    need, gain = row
    if ask == () or ask[1] is None:
        return ask == ()
    return need <= ask[0] and (gain is None or ask[0] + gain >= ask[1])
