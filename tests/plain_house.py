"""A plain house that works everything out anew, and deeds at random for both."""

from anyaround.kinds import alike, form, never_worse, worth_in
from anyaround.nets import wired
from anyaround.parts import Part

from tests.plain import KINDS, for_kind, is_worse, random_part, random_surrounding


def tuples(thing):
    return tuple(tuples(one) for one in thing) if isinstance(thing, (list, tuple)) else thing


class PlainHouse:
    def __init__(self):
        self.now = ({}, [])
        self.past, self.later = [], []

    def part(self, name, means=None):
        means = self.now[0] if means is None else means
        if isinstance(means[name], Part):
            return means[name]
        names, links, ins, outs = means[name]
        return wired([self.part(one, means) for one in names], links, ins, outs)

    def users(self, name, means=None):
        means = self.now[0] if means is None else means
        found = {name}
        while True:
            more = {user for user, thing in means.items() if not isinstance(thing, Part) and found & set(thing[0])}
            if more <= found:
                return sorted(found - {name})
            found |= more

    def holds(self, promise, means=None):
        """Whether a promise holds; False, too, if it is none any more."""
        parts = [self.part(name, means) for name in names_of(promise)]
        kind = promise[2] if promise[0] == "worth" else promise[3]
        if any(is_below(part, kind) for part in parts):
            return False
        if promise[0] == "worth":
            return not is_worse(kind, worth_in(parts[0], kind, promise[3]), promise[4])
        return never_worse(*parts, kind) if promise[0] == "under" else alike(*parts, kind)

    def behind(self, name, thing):
        means = dict(self.now[0])
        means[name] = thing if isinstance(thing, Part) else tuples(thing)
        return means

    def broken_by(self, name, thing):
        return [promise for promise in self.now[1] if not self.holds(promise, self.behind(name, thing))]

    def turned_by(self, name, thing, kind):
        means, found = self.behind(name, thing), {}
        for one in sorted(self.now[0]):
            ahead, behind = self.part(one), self.part(one, means)
            if not is_below(ahead, kind) and not is_below(behind, kind) and form(ahead, kind) != form(behind, kind):
                found[one] = "better" if never_worse(behind, ahead, kind) else (
                    "worse" if never_worse(ahead, behind, kind) else "beside")
        return found

    def do(self, word, means, kept):
        self.past.append((word, self.now))
        self.later = []
        self.now = (means, kept)

    def back(self, one, other):
        if not one:
            return None
        word, state = one.pop()
        other.append((word, self.now))
        self.now = state
        return word


def is_below(part, kind):
    return kind in ("budgets", "prices") and any(min(step[2]) < 0 for step in part.web().steps())


def names_of(promise):
    return [promise[1]] if promise[0] == "worth" else [promise[1], promise[2]]


def random_net(random, house, names):
    """A net of one to three names, or None if none fits."""
    inner = [random.choice(names) for _ in range(random.randint(1, 3))]
    parts = [house.part(name) for name in inner]
    if sum(part.web().places() for part in parts) > 24:
        return None
    ins = [(k, door) for k, part in enumerate(parts) for door in range(len(part.ins()))]
    outs = [(k, door) for k, part in enumerate(parts) for door in range(len(part.outs()))]
    links = list({random.choice(outs) + random.choice(ins) for _ in range(random.randint(0, 4))})
    return inner, links, [random.sample(ins, random.randint(1, min(2, len(ins))))], [random.sample(outs, 1)]


def random_promise(random, house, names):
    """A promise on names, None if there is none of this kind."""
    kind = random.choice(KINDS)
    name = random.choice(names)
    part = house.part(name)
    if is_below(part, kind):
        return None
    if random.random() < 0.6:
        surrounding = random_surrounding(random, kind, len(part.ins()), len(part.outs()))
        worth = worth_in(part, kind, surrounding)
        least = worth if random.random() < 0.7 else {"rates": (5, 2), "prices": 6}.get(kind, True)
        return "worth", name, kind, surrounding, least
    other = random.choice([one for one in names if (len(house.part(one).ins()), len(house.part(one).outs())) == (
        len(part.ins()), len(part.outs()))])
    return None if is_below(house.part(other), kind) else (random.choice(["under", "alike"]), name, other, kind)


def small_part(random, ins=None, outs=None):
    """A part for a house."""
    kind = random.choice(KINDS)
    return random_part(random, ins or random.choice([1, 1, 2]), outs or random.choice([1, 1, 2]), places=4,
                       steps=random.randint(2, 7), **for_kind(kind))
