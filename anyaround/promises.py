"""Promises on what names mean: what they are, whether they hold, and what shows it."""

from anyaround.checks import is_integer, is_list, read_fraction
from anyaround.errors import BadPromise
from anyaround.fronts import first_below
from anyaround.kinds import alike, apart, form, never_worse, papers, worse_in, worth_in
from anyaround.rooms import as_tuples, means_something, whole_in
from anyaround.surroundings import KINDS, read_surrounding, without_below


def is_part_of(part, kind):
    """Whether a part is one that a kind takes."""
    return not without_below(kind) or first_below(part) is None


def is_worth(kind, thing):
    """Whether any object is what a worth of a kind can be."""
    if kind == "rates":
        return thing is None or read_fraction(thing) is not None
    if kind == "prices":
        return thing is None or is_integer(thing)
    return thing is True or thing is False


def is_as_good(kind, worth, least):
    """Whether a worth is at least so good."""
    if least is None:
        return True
    if kind == "rates":
        return worth is not None and worth[0] * least[1] <= least[0] * worth[1]
    if kind == "prices":
        return worth is not None and worth <= least
    return worth or not least


def is_kind(thing):
    """Whether any object is a kind."""
    return isinstance(thing, str) and thing in KINDS


def is_of_two(rooms, thing):
    """Whether a list of four things that begins with "under" or "alike" is a promise."""
    _, one, other, kind = thing
    if not means_something(rooms, one) or not means_something(rooms, other) or not is_kind(kind):
        return False
    mine = whole_in(rooms, one)
    theirs = whole_in(rooms, other)
    if len(mine.ins()) != len(theirs.ins()) or len(mine.outs()) != len(theirs.outs()):
        return False
    return is_part_of(mine, kind) and is_part_of(theirs, kind)


def is_of_one(rooms, thing):
    """Whether a list of five things that begins with "worth" is a promise."""
    _, name, kind, surrounding, least = thing
    if not means_something(rooms, name) or not is_kind(kind) or not is_worth(kind, least):
        return False
    part = whole_in(rooms, name)
    if not is_part_of(part, kind):
        return False
    return read_surrounding(kind, len(part.ins()), len(part.outs()), surrounding) is not None


def is_promise_in(rooms, thing):
    """Whether any object is a promise, by what names mean in rooms."""
    if not is_list(thing) or not thing or not isinstance(thing[0], str):
        return False
    if thing[0] == "worth":
        return len(thing) == 5 and is_of_one(rooms, thing)
    return thing[0] in ("under", "alike") and len(thing) == 4 and is_of_two(rooms, thing)


def checked_promise(rooms, thing):
    """A promise of tuples."""
    if not is_promise_in(rooms, thing):
        raise BadPromise(thing)
    return as_tuples(thing)


def names_told(promise):
    """The names that a promise names."""
    return [promise[1]] if promise[0] == "worth" else [promise[1], promise[2]]


def holds_in(rooms, promise):
    """Whether a promise holds, by what names mean in rooms."""
    if promise[0] == "worth":
        _, name, kind, surrounding, least = promise
        return is_as_good(kind, worth_in(whole_in(rooms, name), kind, surrounding), least)
    word, one, other, kind = promise
    if word == "under":
        return never_worse(whole_in(rooms, one), whole_in(rooms, other), kind)
    return alike(whole_in(rooms, one), whole_in(rooms, other), kind)


def shown_in(rooms, promise):
    """A pair: whether a promise holds, what shows it."""
    if promise[0] == "worth":
        _, name, kind, surrounding, least = promise
        worth = worth_in(whole_in(rooms, name), kind, surrounding)
        return is_as_good(kind, worth, least), worth
    word, one, other, kind = promise
    mine = whole_in(rooms, one)
    theirs = whole_in(rooms, other)
    if word == "alike":
        found = apart(mine, theirs, kind)
        return (True, form(mine, kind)) if found is None else (False, found)
    found = worse_in(mine, theirs, kind)
    return (True, papers(mine, theirs, kind)) if found is None else (False, found)


def broken_in(rooms, touched):
    """The list of the watched promises that do not hold in rooms, or are none; only those on touched names can be."""
    found = []
    for promise in rooms.kept:
        if any([name in touched for name in names_told(promise)]):
            if not is_promise_in(rooms, promise) or not holds_in(rooms, promise):
                found.append(promise)
    return found


def turn_of(ahead, behind, kind):
    """What a change turns a part into, as a kind sees it; None if into one that is alike."""
    if alike(ahead, behind, kind):
        return None
    if never_worse(behind, ahead, kind):
        return "better"
    return "worse" if never_worse(ahead, behind, kind) else "beside"


def turns_between(before, after, names, kind):
    """The dict from those of names whose parts are not alike in two rooms, as a kind sees them, to what they become."""
    found = {}
    for name in names:
        if name in before.means:
            ahead = whole_in(before, name)
            behind = whole_in(after, name)
            turn = turn_of(ahead, behind, kind) if is_part_of(ahead, kind) and is_part_of(behind, kind) else None
            if turn is not None:
                found[name] = turn
    return found
