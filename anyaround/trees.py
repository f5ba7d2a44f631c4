"""Programs that were read, as trees of nodes, and the names and works of which they are made."""

from anyaround.checks import is_integer, is_integers, is_list
from anyaround.refusals import BadProgram, BadWorks, HasHole, NoWork

FIRST_SIGNS = "abcdefghijklmnopqrstuvwxyz"
SIGNS = "abcdefghijklmnopqrstuvwxyz0123456789"
# How many things stand in a program that begins with a word.
WIDTHS = {"hole": 1, "behind": 2, "either": 2, "again": 2, "often": 3}


class Tree:
    """The nodes of a program, in the order in which one reads it; the first one is the program itself.

    Lists beside one another: its word ("do" for a name), its mark (the name, or how often; or None), the numbers of
    the nodes of which it is made, the number of the node of which it is a part (-1 for none), how many stand ahead of
    it there.
    """

    def __init__(self):
        self.words = []
        self.marks = []
        self.pieces = []
        self.above = []
        self.turns = []

    def grow(self, word, mark, above):
        """Put a node behind all others; its number."""
        number = len(self.words)
        self.words.append(word)
        self.marks.append(mark)
        self.pieces.append([])
        self.above.append(above)
        self.turns.append(0)
        if above >= 0:
            self.turns[number] = len(self.pieces[above])
            self.pieces[above].append(number)
        return number


def is_name(thing):
    """Whether any object is a name."""
    if not isinstance(thing, str) or len(thing) < 1 or len(thing) > 8 or thing[0] not in FIRST_SIGNS:
        return False
    return all([sign in SIGNS for sign in thing])


def read_node(thing):
    """A triple (word, mark, what it is made of) for what looks like a program from outside; None for what does not."""
    if isinstance(thing, str):
        return ("do", thing, []) if is_name(thing) else None
    if not is_list(thing) or not thing or not isinstance(thing[0], str):
        return None
    word = thing[0]
    if word not in WIDTHS or len(thing) != WIDTHS[word]:
        return None
    if word == "hole":
        return word, None, []
    if word == "again":
        return word, None, [thing[1]]
    if word == "often":
        return (word, thing[1], [thing[2]]) if is_integer(thing[1]) and thing[1] >= 2 else None
    return (word, None, thing[1]) if is_list(thing[1]) and thing[1] else None


def read_tree(thing):
    """The tree of a program, None for any object that is none."""
    tree = Tree()
    holes = 0
    # The nodes that are still to be read, the next one last, each with the one above it and whether it is in an often.
    todo = [(thing, -1, False)]
    while todo:
        one, above, in_often = todo.pop()
        node = read_node(one)
        if node is None:
            return None
        word, mark, inner = node
        if word == "hole":
            holes = holes + 1
            if in_often or holes > 1:
                return None
        number = tree.grow(word, mark, above)
        for piece in inner[::-1]:
            todo.append((piece, number, in_often or word == "often"))
    return tree


def checked_tree(thing):
    """The tree of a program."""
    tree = read_tree(thing)
    if tree is None:
        raise BadProgram(thing)
    return tree


def checked_whole(thing):
    """The tree of a program without a hole."""
    tree = checked_tree(thing)
    if "hole" in tree.words:
        raise HasHole()
    return tree


def told_of(tree, filling):
    """The program of a tree, with what is told for its hole."""
    told = [None] * len(tree.words)
    for number in reversed(range(len(tree.words))):
        word = tree.words[number]
        inner = [told[piece] for piece in tree.pieces[number]]
        if word == "do":
            told[number] = tree.marks[number]
        elif word == "hole":
            told[number] = filling
        elif word == "again":
            told[number] = (word, inner[0])
        elif word == "often":
            told[number] = (word, tree.marks[number], inner[0])
        else:
            told[number] = (word, inner)
    return told[0]


def names_in(tree):
    """The names in a program, each once, as one reads it."""
    return list({mark: True for word, mark in zip(tree.words, tree.marks) if word == "do"})


def read_work(thing):
    """A triple (amounts, ticks, change) of tuples, as steps have them; None for what is none."""
    if not is_list(thing) or len(thing) != 3 or not is_integers(thing[0], 2):
        return None
    amounts, ticks, change = thing
    if not is_integer(ticks) or ticks < 1 or not is_integer(change):
        return None
    return tuple(amounts), ticks, change


def read_works(thing):
    """Works with ascending names, of tuples; None for any object that is none."""
    if not isinstance(thing, dict) or not all([is_name(name) for name in thing]):
        return None
    found = {name: read_work(thing[name]) for name in sorted(thing)}
    return None if any([work is None for work in found.values()]) else found


def checked_works(tree, thing):
    """Works that have all names of a program."""
    works = read_works(thing)
    if works is None:
        raise BadWorks(thing)
    for name in names_in(tree):
        if name not in works:
            raise NoWork(name)
    return works
