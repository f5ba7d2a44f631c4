"""Plain, slow answers about programs, and programs that the tests try."""

from random import Random

from tests.brute import objects

NAMES = "abcde"
WORKS = {"buy": ((1, 1), 1, 2), "cut": ((2, 0), 1, -1), "mill": ((0, 3), 2, 0)}
BUILT = ("behind", ["buy", ("again", ("either", ["cut", "mill"]))])
HOLED = ("behind", ["buy", ("hole",), "cut"])
# Things that look like programs and are none.
NO_PROGRAMS = [
    "", "A", "1a", "a_", "a b", "toolonger", "abcdefghi", "\u00e9", "a\n", (), [], ("a",), ("do", "a"), ("hole", "a"),
    ("hole", ()), (("hole",),), ("behind",), ("behind", []), ("behind", ()), ("behind", "ab"), ("behind", "a"),
    ("behind", ["a"], ["b"]), ("behind", "a", "b"), ("behind", {"a": 1}), ("either", []), ("either", None),
    ("either", ["a", 1]), ("either", ["a", ""]), ("again",), ("again", ["a"]), ("again", "a", "b"), ("again", 2, "a"),
    ("often", "a"), ("often", 2), ("often", 1, "a"), ("often", 0, "a"), ("often", -2, "a"), ("often", True, "a"),
    ("often", "2", "a"), ("often", None, "a"), ("often", 2, "a", "b"), ("often", 2, ["a"]), ("often", "a", 2),
    ("often", 2, ("hole",)), ("often", 3, ("behind", ["a", ("again", ("hole",))])),
    ("behind", [("hole",), ("hole",)]), ("either", [("hole",), ("again", ("hole",))]), ("Behind", ["a"]),
    ("either", [("behind", ["a", ("hole",)]), ("often", 2, ("either", ["b", ("hole",)]))]), ("round", "a"),
    (1, ["a"]), (None, ["a"]), (["behind"], ["a"]), b"a", {"behind": ["a"]}, ("behind", [None]), ("again", True)]


def cut_off(lists, most):
    return {one for one in lists if len(one) <= most}


def join(one, other, most):
    """Each of some tuples with each of others behind it, as far as they are short enough."""
    return {left + right for left in one for right in other if len(left) + len(right) <= most}


def closure(inner, most):
    """One of some tuples or more, one behind another."""
    found = set(inner)
    while True:
        more = found | join(found, inner, most)
        if more == found:
            return found
        found = more


def runs(program, most):
    """All runs of at most so many names, as tuples."""
    if isinstance(program, str):
        return cut_off({(program,)}, most)
    if program[0] == "hole":
        return cut_off({(None,)}, most)
    if program[0] == "either":
        return set().union(*[runs(one, most) for one in program[1]])
    if program[0] == "again":
        return closure(runs(program[1], most), most)
    inner = program[1] if program[0] == "behind" else [program[2]] * min(program[1], most + 1)
    found = {()}
    for one in inner:
        found = join(found, runs(one, most), most)
    return found


def beginnings(program, most):
    """All beginnings of at most so many names, as tuples."""
    if isinstance(program, str):
        return cut_off({(), (program,)}, most)
    if program[0] == "hole":
        return cut_off({(), (None,)}, most)
    if program[0] == "either":
        return set().union(*[beginnings(one, most) for one in program[1]])
    if program[0] == "again":
        whole = closure(runs(program[1], most), most) | {()}
        return join(whole, beginnings(program[1], most), most)
    inner = program[1] if program[0] == "behind" else [program[2]] * min(program[1], most + 1)
    ahead, found = {()}, set()
    for one in inner:
        found |= join(ahead, beginnings(one, most), most)
        ahead = join(ahead, runs(one, most), most)
    return found


def has_hole(program):
    if isinstance(program, str) or program[0] == "often":
        return False
    if program[0] == "hole":
        return True
    return any(has_hole(one) for one in (program[1] if program[0] in ("behind", "either") else [program[1]]))


def behind_hole(program, most, begun):
    """What can stand behind the hole, up to the end of a program with one; if begun, what of it can stand there so far."""
    if program[0] == "hole":
        return {()}
    if program[0] == "again":
        inner = runs(program[1], most)
        further = {()} | closure(inner, most)
        ends = join(behind_hole(program[1], most, False), further, most)
        if not begun:
            return ends
        return behind_hole(program[1], most, True) | join(ends, beginnings(program[1], most), most)
    at = next(k for k, one in enumerate(program[1]) if has_hole(one))
    found = behind_hole(program[1][at], most, begun)
    if program[0] == "behind":
        ahead = behind_hole(program[1][at], most, False)
        for one in program[1][at + 1:]:
            if begun:
                found |= join(ahead, beginnings(one, most), most)
            ahead = join(ahead, runs(one, most), most)
        return found if begun else ahead
    return found


def up_to_none(lists):
    """Of lists what stands ahead of the first None in them."""
    return {one[:one.index(None)] for one in lists if None in one}


def with_none(run):
    """A key by which lists compare, None being ahead of all names."""
    return [(mark is not None, mark or "") for mark in run]


def first_apart(one, other, most):
    """The first of the shortest runs of just one of two programs, as far as so many names."""
    found = runs(one, most) ^ runs(other, most)
    return min(([len(run), with_none(run), list(run)] for run in found), default=[None])[-1]


def once_runs(program):
    """All once-runs, as tuples."""
    if isinstance(program, str):
        return {(program,)}
    if program[0] == "either":
        return set().union(*[once_runs(one) for one in program[1]])
    if program[0] == "again":
        return once_runs(program[1])
    found = {()}
    for one in program[1] if program[0] == "behind" else [program[2]] * program[1]:
        found = {left + right for left in found for right in once_runs(one)}
    return found


def counts(lists):
    return sorted({tuple(sorted((name, one.count(name)) for name in set(one))) for one in lists})


def agains(program):
    """The parts of all agains."""
    if isinstance(program, str) or program[0] == "hole":
        return []
    inner = program[1] if program[0] in ("behind", "either") else [program[-1]]
    return [more for one in inner for more in agains(one)] + ([program[1]] if program[0] == "again" else [])


def size(program):
    """How many names and holes there are, each counted as often as oftens have it done."""
    if isinstance(program, str) or program[0] == "hole":
        return 1
    if program[0] in ("behind", "either"):
        return sum(size(one) for one in program[1])
    return size(program[-1]) * (program[1] if program[0] == "often" else 1)


def random_program(random, deep=3, most=8, names=NAMES):
    """A program without a hole of at most so many names, each counted as often as oftens have it done."""
    sort = random.random()
    if deep == 0 or most < 2 or sort < 0.15:
        return random.choice(names)
    if sort < 0.7:
        many = random.randint(1, 3)
        return (random.choice(["behind", "either"]),
                [random_program(random, deep - 1, most // many, names) for _ in range(many)])
    if sort < 0.85:
        return "again", random_program(random, deep - 1, min(most, 3), names)
    many = random.randint(2, 3)
    return "often", many, random_program(random, deep - 1, most // many, names)


def holed(random, program):
    """A program with a hole, or something with one, in the place of a name, None if that stands within an often."""
    if isinstance(program, str):
        one, other = random.choice(NAMES), random.choice(NAMES)
        return random.choice([("hole",), ("behind", [one, ("hole",)]), ("behind", [("hole",), other]),
                              ("behind", [one, ("hole",), other])])
    if program[0] == "often":
        return None
    if program[0] == "again":
        inner = holed(random, program[1])
        return None if inner is None else ("again", inner)
    at = random.randrange(len(program[1]))
    inner = holed(random, program[1][at])
    return None if inner is None else (program[0], program[1][:at] + [inner] + program[1][at + 1:])


def random_programs(seed, many, **more):
    random = Random(seed)
    return [random_program(random, **more) for _ in range(many)]


def holed_programs(seed, many, **more):
    """Programs with a hole."""
    random = Random(seed)
    found = []
    while len(found) < many:
        program = holed(random, random_program(random, **more))
        if program is not None:
            found.append(program)
    return found


def clothed_programs(seed, many, **more):
    """Programs with a hole whose runs never begin or end with it, nor have two of them one behind another."""
    random = Random(seed)
    found = []
    while len(found) < many:
        found += [program for program in holed_programs(random.random(), 10, **more) if not is_bare_plainly(program)]
    return found[:many]


def ends_with_hole(program):
    """Whether some run ends with None."""
    return () in behind_hole(program, 0, False)


def is_bare_plainly(program):
    """Whether some run begins or ends with None, or has two of them one behind another."""
    if not has_hole(program):
        return False
    return (None,) in beginnings(program, 1) or ends_with_hole(program) or (None,) in behind_hole(program, 1, True)


def random_works(random, names=NAMES, low=-4):
    return {name: ((random.randint(low, 4), random.randint(low, 4)), random.randint(1, 4), random.randint(-3, 3))
            for name in names}


def works_for(random, kind, names=NAMES):
    return random_works(random, names, 0 if kind in ("budgets", "prices") else -4)


def no_programs():
    """Things that are no programs."""
    return NO_PROGRAMS + [thing for thing in objects() if thing != "ab"]


def turned(thing):
    """A program, or anything of lists, with lists for tuples and tuples for lists."""
    if isinstance(thing, list):
        return tuple(turned(one) for one in thing)
    if isinstance(thing, tuple):
        return [turned(one) for one in thing]
    return thing
