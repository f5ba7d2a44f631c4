"""Texts of webs, parts, works and programs, line by line.

Lines are read by a READER: it keeps what was read so far, takes the next line if some text goes on so, and tells what
was read as soon as it can be a whole.
"""

from anyaround.errors import BadThing
from anyaround.figures import read_integer, read_integers, written
from anyaround.parts import Part
from anyaround.refusals import BadText
from anyaround.trees import Tree, is_name, read_tree, read_works, told_of
from anyaround.webs import Web


def line_of(word, numbers):
    """The line of a word and integers behind it."""
    return " ".join([word] + [written(number) for number in numbers])


def step_lines(web):
    """The lines of the steps of a web."""
    return [line_of("step", [one, other, first, second, ticks, change])
            for one, other, (first, second), ticks, change in web.steps()]


def part_lines(part):
    """The lines of a part."""
    doors = [line_of("in", [place]) for place in part.ins()] + [line_of("out", [place]) for place in part.outs()]
    return [line_of("part", [part.web().places()])] + doors + step_lines(part.web())


def works_lines(works):
    """The lines of works."""
    return ["works"] + [line_of("work " + name, [first, second, ticks, change])
                        for name, ((first, second), ticks, change) in works.items()]


def node_text(word, mark):
    """The text of a node of a program, without what is ahead of it."""
    if word == "do":
        return "do " + mark
    return "often " + written(mark) if word == "often" else word


def program_lines(tree):
    """The lines of a program."""
    lines = ["program"]
    deep = []
    for number, word in enumerate(tree.words):
        above = tree.above[number]
        deep.append(1 if above < 0 else deep[above] + 1)
        lines.append("  " * deep[number] + node_text(word, tree.marks[number]))
    return lines


def lines_of(thing):
    """The lines of a thing, None for any object that has none."""
    if isinstance(thing, Web):
        return [line_of("web", [thing.places()])] + step_lines(thing)
    if isinstance(thing, Part):
        return part_lines(thing)
    if isinstance(thing, dict):
        works = read_works(thing)
        return None if works is None else works_lines(works)
    tree = read_tree(thing)
    return None if tree is None else program_lines(tree)


def write(thing):
    """The text of a web, a part, works or a program."""
    lines = lines_of(thing)
    if lines is None:
        raise BadThing(thing)
    return "\n".join(lines) + "\n"


class WebReader:
    """Reads the lines of a web behind the first one."""

    def __init__(self, places):
        self.places = places
        self.steps = []

    def takes(self, line):
        """Whether a text goes on with a line."""
        words = line.split(" ")
        numbers = read_integers(words[1:])
        if words[0] != "step" or numbers is None or len(numbers) != 6:
            return False
        one, other, first, second, ticks, change = numbers
        step = (one, other, (first, second), ticks, change)
        if min(one, other) < 0 or max(one, other) >= self.places or ticks < 1:
            return False
        if self.steps and step <= self.steps[-1]:
            return False
        self.steps.append(step)
        return True

    def told(self):
        """What was read, None if it is no whole yet."""
        return Web(self.places, self.steps)


class PartReader:
    """Reads the lines of a part behind the first one."""

    def __init__(self, places):
        self.places = places
        self.ins = []
        self.outs = []
        self.further = WebReader(places)

    def takes(self, line):
        """Whether a text goes on with a line."""
        words = line.split(" ")
        if words[0] == "step":
            return bool(self.outs) and self.further.takes(line)
        numbers = read_integers(words[1:])
        if numbers is None or len(numbers) != 1 or self.further.steps:
            return False
        place = numbers[0]
        if place < 0 or place >= self.places or place in self.ins or place in self.outs:
            return False
        # A place must be left for an out door.
        if words[0] == "in" and not self.outs and len(self.ins) + 1 < self.places:
            self.ins.append(place)
            return True
        if words[0] == "out" and self.ins:
            self.outs.append(place)
            return True
        return False

    def told(self):
        """What was read, None if it is no whole yet."""
        if not self.outs:
            return None
        return Part(self.places, self.further.steps, self.ins, self.outs)


class WorksReader:
    """Reads the lines of works behind the first one."""

    def __init__(self):
        self.works = {}
        self.last = ""

    def takes(self, line):
        """Whether a text goes on with a line."""
        words = line.split(" ")
        numbers = read_integers(words[2:])
        if words[0] != "work" or numbers is None or len(numbers) != 4:
            return False
        first, second, ticks, change = numbers
        name = words[1]
        if not is_name(name) or name <= self.last or ticks < 1:
            return False
        self.works[name] = ((first, second), ticks, change)
        self.last = name
        return True

    def told(self):
        """What was read, None if it is no whole yet."""
        return self.works


class ProgramReader:
    """Reads the lines of a program behind the first one."""

    def __init__(self):
        self.tree = Tree()
        # The nodes from the first one down to that which was read last.
        self.path = []

    def node_above(self, deep):
        """The node of which one so deep would be the next part, -1 for none; None if there can be none."""
        tree = self.tree
        if deep == 1:
            return None if tree.words else 0 - 1
        if deep < 1 or deep > len(self.path) + 1:
            return None
        number = self.path[deep - 2]
        word = tree.words[number]
        if word in ("do", "hole") or (word in ("again", "often") and tree.pieces[number]):
            return None
        # What is still open further down must have a part first.
        last = self.path[-1]
        if number != last and tree.words[last] not in ("do", "hole"):
            return None
        return number

    def can_have(self, above, word):
        """Whether a hole, if the word is one, can stand below a node."""
        if word != "hole":
            return True
        oftens = [number for number in self.path if self.tree.words[number] == "often"]
        return "hole" not in self.tree.words and not [number for number in oftens if number <= above]

    def takes(self, line):
        """Whether a text goes on with a line."""
        text = line.lstrip(" ")
        ahead = len(line) - len(text)
        node = read_node_text(text)
        if node is None or ahead & 1:
            return False
        word, mark = node
        deep = ahead // 2
        above = self.node_above(deep)
        if above is None or not self.can_have(above, word):
            return False
        self.path = self.path[:deep - 1] + [self.tree.grow(word, mark, above)]
        return True

    def told(self):
        """What was read, None if it is no whole yet."""
        if not self.path or self.tree.words[self.path[-1]] not in ("do", "hole"):
            return None
        return told_of(self.tree, ("hole",))


def read_node_text(text):
    """A pair (word, mark) of what node_text tells, None for what it does not tell."""
    word, blank, rest = text.partition(" ")
    if word == "do":
        return (word, rest) if is_name(rest) else None
    if word == "often":
        many = read_integer(rest)
        return (word, many) if many is not None and many >= 2 else None
    if blank or word not in ("hole", "behind", "either", "again"):
        return None
    return word, None


def reader_for(line):
    """The reader of what begins with a line, None if no text does."""
    if line == "works":
        return WorksReader()
    if line == "program":
        return ProgramReader()
    word, _, rest = line.partition(" ")
    places = read_integer(rest)
    if word == "web" and places is not None and places >= 1:
        return WebReader(places)
    if word == "part" and places is not None and places >= 2:
        return PartReader(places)
    return None


def read(text):
    """The thing whose text this is."""
    if not isinstance(text, str):
        raise BadText(0)
    lines = text.split("\n")
    reader = None
    # Behind the last line feed nothing stands.
    for number, line in enumerate(lines[:-1]):
        if number == 0:
            reader = reader_for(line)
        if reader is None or (number > 0 and not reader.takes(line)):
            raise BadText(number + 1)
    found = None if reader is None or lines[-1] else reader.told()
    if found is None:
        raise BadText(len(lines))
    return found
