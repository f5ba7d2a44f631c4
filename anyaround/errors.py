"""The base of all errors, and the errors of parts and what is around them."""


class AroundError(ValueError):
    """The base of all errors of the package."""


class BadFraction(AroundError):
    """A thing is no fraction."""

    def __init__(self, thing):
        self.thing = thing


class BadPrices(AroundError):
    """A thing is no prices."""

    def __init__(self, thing):
        self.thing = thing


class BadPlaces(AroundError):
    """A thing is no number of places."""

    def __init__(self, places):
        self.places = places


class BadSteps(AroundError):
    """A thing in steps is no step, or stood before."""

    def __init__(self, index):
        self.index = index


class BadWalk(AroundError):
    """A thing is no walk."""

    def __init__(self, walk):
        self.walk = walk


class BadPlace(AroundError):
    """A thing is no place of a web."""

    def __init__(self, place):
        self.place = place


class BadRow(AroundError):
    """A thing is no row."""

    def __init__(self, row):
        self.row = row


class BadBudget(AroundError):
    """A thing is no budget."""

    def __init__(self, budget):
        self.budget = budget


class BadIns(AroundError):
    """A thing in ins is no in door, or stood before."""

    def __init__(self, index):
        self.index = index


class BadOuts(AroundError):
    """A thing in outs is no out door, or stood before."""

    def __init__(self, index):
        self.index = index


class BadDoor(AroundError):
    """A thing is no number of a door."""

    def __init__(self, number):
        self.number = number


class BadWays(AroundError):
    """A thing in ways is no way back, or stood before."""

    def __init__(self, index):
        self.index = index


class BadKind(AroundError):
    """A thing is no kind."""

    def __init__(self, kind):
        self.kind = kind


class BadSurrounding(AroundError):
    """A thing is no surrounding of a kind."""

    def __init__(self, surrounding):
        self.surrounding = surrounding


class UnlikeDoors(AroundError):
    """Two parts have unlike numbers of doors."""


class HasBelow(AroundError):
    """A step has an amount below 0."""

    def __init__(self, step):
        self.step = step


class BadStock(AroundError):
    """A thing is no stock."""

    def __init__(self, stock):
        self.stock = stock


class BadWanted(AroundError):
    """A thing is no wanted stock."""

    def __init__(self, wanted):
        self.wanted = wanted


class BadBound(AroundError):
    """A thing is no bound of a cost."""

    def __init__(self, bound):
        self.bound = bound


class BadParts(AroundError):
    """A thing in parts is no part."""

    def __init__(self, index):
        self.index = index


class BadLinks(AroundError):
    """A thing in links is no link, or stood before."""

    def __init__(self, index):
        self.index = index


class BadPieces(AroundError):
    """A thing in pieces is no piece, or does not follow."""

    def __init__(self, index):
        self.index = index


class BadName(AroundError):
    """A thing is no name."""

    def __init__(self, name):
        self.name = name


class BadThing(AroundError):
    """A thing is nothing that a house keeps."""

    def __init__(self, thing):
        self.thing = thing


class NoName(AroundError):
    """A name means nothing."""

    def __init__(self, name):
        self.name = name


class InRing(AroundError):
    """A name would be made of itself."""

    def __init__(self, name):
        self.name = name


class InUse(AroundError):
    """A name is used by another one."""

    def __init__(self, user):
        self.user = user


class BadPromise(AroundError):
    """A thing is no promise."""

    def __init__(self, promise):
        self.promise = promise


class Watched(AroundError):
    """A promise is watched."""

    def __init__(self, promise):
        self.promise = promise


class NotKept(AroundError):
    """A promise does not hold."""

    def __init__(self, promise):
        self.promise = promise


class NotWatched(AroundError):
    """A promise is not watched."""

    def __init__(self, promise):
        self.promise = promise


class Broken(AroundError):
    """A promise would not hold any more."""

    def __init__(self, promise):
        self.promise = promise


class BadContext(AroundError):
    """A thing is no context."""

    def __init__(self, thing):
        self.thing = thing


class BadFiller(AroundError):
    """A thing is no filler."""

    def __init__(self, thing):
        self.thing = thing


class BadWish(AroundError):
    """A thing is no wish of a kind."""

    def __init__(self, wish):
        self.wish = wish


class BadForm(AroundError):
    """A thing is no form of a kind."""

    def __init__(self, thing):
        self.thing = thing


class BadForms(AroundError):
    """A thing in forms is no form of a kind."""

    def __init__(self, index):
        self.index = index


class BadMany(AroundError):
    """A thing does not tell how many."""

    def __init__(self, many):
        self.many = many


class TooGreat(AroundError):
    """At a rate it can pay to stay."""

    def __init__(self, rate):
        self.rate = rate


class Unseen(AroundError):
    """A kind does not see another one."""


class BadAnswer(AroundError):
    """A box answers what is no answer."""

    def __init__(self, thing):
        self.thing = thing


class BadMost(AroundError):
    """A thing is no greatest need."""

    def __init__(self, most):
        self.most = most


class BadGain(AroundError):
    """A thing is no greatest gain."""

    def __init__(self, gain):
        self.gain = gain


class BadTicks(AroundError):
    """A thing does not tell how many ticks."""

    def __init__(self, ticks):
        self.ticks = ticks


class BadCost(AroundError):
    """A thing is no greatest cost."""

    def __init__(self, cost):
        self.cost = cost


class Unfit(AroundError):
    """A box answers as no part does."""

    def __init__(self, way):
        self.way = way
