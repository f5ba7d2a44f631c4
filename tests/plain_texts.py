"""A plain, slow answer to which line of a text is the first with which no text begins."""

import re

NUMBER = r"(0|-?[1-9][0-9]*)"
NAME = r"[a-z][a-z0-9]{0,7}"


def numbers(line, word, many):
    """The numbers behind a word, None if the line is none such."""
    if not re.fullmatch(word + (" " + NUMBER) * many, line, re.ASCII):
        return None
    return [int(one) for one in line.split(" ")[-many:]] if many else []


def steps_go_on(lines, places):
    last = None
    for line in lines:
        step = numbers(line, "step", 6)
        if step is None or not (0 <= step[0] < places and 0 <= step[1] < places and step[4] >= 1):
            return False
        if last is not None and step <= last:
            return False
        last = step
    return True


def part_goes_on(lines, places):
    ins, outs, at = [], [], 0
    for word, doors in (("in", ins), ("out", outs)):
        while at < len(lines) and numbers(lines[at], word, 1):
            doors.append(numbers(lines[at], word, 1)[0])
            at += 1
    doors = ins + outs
    if len(set(doors)) < len(doors) or not all(0 <= door < places for door in doors) or len(ins) >= places:
        return False
    if (outs and not ins) or (at < len(lines) and not outs):
        return False
    return steps_go_on(lines[at:], places)


def works_go_on(lines):
    names = []
    for line in lines:
        word = re.match("work (" + NAME + ")", line)
        row = numbers(line, "work " + word.group(1), 4) if word else None
        if row is None or row[2] < 1:
            return False
        names.append(word.group(1))
    return names == sorted(set(names))


def program_goes_on(lines):
    """Whether lines begin a program: one node is read after the other, and where one has no room for it, it is wrong."""
    def node(at, deep, in_often):
        # What comes behind the node that begins with this line; None if lines end within it.
        if at == len(lines):
            return None
        line = lines[at]
        if not line.startswith("  " * deep) or line[2 * deep:2 * deep + 1] == " ":
            raise ValueError
        text = line[2 * deep:]
        if re.fullmatch("do " + NAME, text):
            return at + 1
        if text == "hole":
            if in_often or "hole" in [one.strip(" ") for one in lines[:at]]:
                raise ValueError
            return at + 1
        often = re.fullmatch("often " + NUMBER, text, re.ASCII)
        if text == "again" or (often and int(often.group(1)) >= 2):
            return node(at + 1, deep + 1, in_often or bool(often))
        if text not in ("behind", "either"):
            raise ValueError
        at = node(at + 1, deep + 1, in_often)
        while at is not None and at < len(lines) and lines[at].startswith("  " * (deep + 1)):
            at = node(at, deep + 1, in_often)
        return at

    try:
        end = node(0, 1, False)
    except ValueError:
        return False, False
    return end is None or end == len(lines), end == len(lines)


def goes_on(lines):
    """A pair: whether some text begins with these lines, whether they are one."""
    if not lines:
        return True, False
    first = lines[0]
    if first == "works":
        return (works_go_on(lines[1:]),) * 2
    if first == "program":
        return program_goes_on(lines[1:])
    places = numbers(first, "web", 1)
    if places and places[0] >= 1:
        return (steps_go_on(lines[1:], places[0]),) * 2
    places = numbers(first, "part", 1)
    if places and places[0] >= 2:
        begun = part_goes_on(lines[1:], places[0])
        return begun, begun and any(numbers(line, "out", 1) for line in lines)
    return False, False


def bad_line(text):
    """The line that BadText tells, None for a text."""
    lines = text.split("\n")
    for many in range(1, len(lines)):
        if not goes_on(lines[:many])[0]:
            return many
    return None if lines[-1] == "" and goes_on(lines[:-1])[1] else len(lines)
