"""The errors of programs, of runs and of texts."""

from anyaround.errors import AroundError


class BadProgram(AroundError):
    """A thing is no program."""

    def __init__(self, thing):
        self.thing = thing


class BadWorks(AroundError):
    """A thing is no works."""

    def __init__(self, works):
        self.works = works


class NoWork(AroundError):
    """A name in a program is no work."""

    def __init__(self, name):
        self.name = name


class BareHole(AroundError):
    """A run begins or ends with the hole, or has two of them side by side."""


class NoBeginning(AroundError):
    """A thing is no beginning of a run."""

    def __init__(self, names):
        self.names = names


class NoHole(AroundError):
    """A program has no hole."""


class HasHole(AroundError):
    """A program has a hole."""


class BadLegs(AroundError):
    """A thing is no legs."""

    def __init__(self, legs):
        self.legs = legs


class BadNumber(AroundError):
    """A thing is no number."""

    def __init__(self, number):
        self.number = number


class BadPlan(AroundError):
    """A thing is no plan."""

    def __init__(self, plan):
        self.plan = plan


class BadMix(AroundError):
    """A thing is no lot with a mix of its rows."""

    def __init__(self, found):
        self.found = found


class BadChooser(AroundError):
    """A thing is no chooser."""

    def __init__(self, chooser):
        self.chooser = chooser


class BadText(AroundError):
    """A line of a text can not be read."""

    def __init__(self, line):
        self.line = line
