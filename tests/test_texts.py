"""Promises [17.1] to [17.3]: texts."""

import unittest
from random import Random

from anyaround.errors import BadThing
from anyaround.figures import read_integer, written
from anyaround.houses import House
from anyaround.parts import Part
from anyaround.programs import is_program
from anyaround.refusals import BadText
from anyaround.texts import read, write
from anyaround.webs import Web

from tests.brute import objects, part_p, random_webs, web_w
from tests.plain import random_part
from tests.plain_programs import (BUILT, HOLED, NO_PROGRAMS, WORKS, holed_programs, random_programs, random_works,
                                  turned)
from tests.plain_texts import bad_line

GREAT = 10 ** 30
TOLD = ("behind", ["buy", ("again", ("either", ["cut", ("hole",)]))])
TOLD_TEXT = "program\n  behind\n    do buy\n    again\n      either\n        do cut\n        hole\n"
FAR = [Web(10 ** 40, [(10 ** 39, 0, (-10 ** 3999, 10 ** 3999), GREAT, -1)]), ("often", 10 ** 900, "a"),
       Part(10 ** 40, [], [10 ** 39, 5], [0, 10 ** 40 - 1]), {"a": ((0, -10 ** 3000), 10 ** 512, 7 ** 999)}]


def things():
    random = Random(81)
    found = random_webs(82, 25) + [random_part(random) for _ in range(25)] + random_programs(83, 40)
    found += holed_programs(84, 20) + [random_works(random, random.sample(["a", "b", "c0", "abcdefgh", "z9"], k % 6))
                                       for k in range(20)]
    return found + [web_w(), part_p(), {}, "a", ("hole",), TOLD, BUILT, WORKS, Web(1, []), ("often", GREAT, "a")] + FAR


THINGS = things()
SAID = ["", " ", "web 2", "part 2", "works", "program", "step 0 1 0 0 1 0", "in 0", "out 1", "in 1", "work a 0 0 1 0",
        "  do a", "  hole", "    hole", "  behind", "    either", "    again", "  often 2", "  often 1", "    do b",
        "      do c", "step 0 0 0 0 1 0", "work zzzzzzzz 0 0 1 0", "a"]


def as_told(thing):
    """A program of tuples, and lists in behind and either."""
    if isinstance(thing, (list, tuple)):
        if thing[0] in ("behind", "either"):
            return thing[0], [as_told(one) for one in thing[1]]
        return tuple(thing[:-1]) + (as_told(thing[-1]),) if thing[0] != "hole" else ("hole",)
    return thing


class WriteTest(unittest.TestCase):
    def test_lines(self):
        self.assertEqual(write(web_w()), "web 3\nstep 0 1 2 0 1 0\nstep 1 0 0 2 1 0\nstep 1 1 0 3 1 -1\n"
                                         "step 1 2 0 0 1 0\nstep 2 2 3 0 1 1\n")
        part = Part(4, [(3, 0, (-1, 2), 5, 0), (0, 3, (0, 0), 1, -2)], [2, 1], [3, 0])
        self.assertEqual(write(part), "part 4\nin 2\nin 1\nout 3\nout 0\nstep 0 3 0 0 1 -2\nstep 3 0 -1 2 5 0\n")
        self.assertEqual(write({"cut": [[2, 0], 1, -1], "b9": ((0, -3), 2, 0)}), "works\nwork b9 0 -3 2 0\nwork cut 2 0 1 -1\n")
        self.assertEqual(write({}), "works\n")
        self.assertEqual(write(TOLD), TOLD_TEXT)
        self.assertEqual(write(["often", GREAT, ["behind", ("a",)]]), f"program\n  often {GREAT}\n    behind\n      do a\n")
        self.assertEqual(write("abc"), "program\n  do abc\n")

    def test_there_and_back(self):
        for thing in THINGS:
            text = write(thing)
            self.assertIsInstance(text, str)
            told = read(text)
            self.assertEqual(told, as_told(thing) if is_program(thing) else thing)
            self.assertIs(type(told), type(as_told(thing)) if is_program(thing) else type(thing))
            self.assertEqual(write(told), text)
            if len(text) < 3000:
                self.assertIsNone(bad_line(text))

    def test_lists_and_tuples(self):
        for thing in THINGS:
            if isinstance(thing, dict):
                text = write({name: turned(thing[name]) for name in reversed(list(thing))})
            else:
                text = write(turned(thing))
            self.assertEqual(text, write(thing))
        self.assertEqual(list(read(write(dict(reversed(list(WORKS.items())))))), sorted(WORKS))

    def test_unlike_things(self):
        for one in THINGS:
            for other in THINGS:
                mine, theirs = [as_told(thing) if is_program(thing) else thing for thing in (one, other)]
                self.assertEqual(write(one) == write(other), mine == theirs)

    def test_bad_thing(self):
        none = [thing for thing in objects() if thing not in ("ab", {}) and not isinstance(thing, (Web, Part))]
        none += NO_PROGRAMS + [
            {"a": 1}, {"A": ((0, 0), 1, 0)}, {"a": ((0, 0), 0, 0)}, {1: ((0, 0), 1, 0)}, House(), ("often", 2, HOLED)]
        for thing in none:
            with self.assertRaises(BadThing) as caught:
                write(thing)
            self.assertIs(caught.exception.thing, thing)

    def test_figures(self):
        random = Random(85)
        for size in (1, 2, 63, 64, 65, 128, 129, 512, 513, 4000):
            for number in (10 ** size, 10 ** size - 1, random.randrange(10 ** size), 7 * 10 ** size):
                for one in (number, -number):
                    self.assertEqual(written(one), str(one))
                    self.assertEqual(read_integer(written(one)), one)
        self.assertEqual(read_integer(written(-10 ** 6000)), -10 ** 6000)
        for word in ("", "-", "+1", "01", "-0", "00", "1 ", " 1", "1_0", "1.0", "\u0661", "--1", "0x1", "-01", "1e3"):
            self.assertIsNone(read_integer(word), word)


class ReadTest(unittest.TestCase):
    def check(self, text):
        expected = bad_line(text)
        if expected is None:
            self.assertEqual(write(read(text)), text)
        else:
            with self.assertRaises(BadText, msg=repr(text)) as caught:
                read(text)
            self.assertEqual(caught.exception.line, expected, repr(text))

    def test_lines_otherwise(self):
        random = Random(86)
        for thing in THINGS[:-len(FAR)]:
            lines = write(thing).split("\n")[:-1]
            for at in range(len(lines)):
                line = lines[at]
                other = random.randrange(len(lines))
                for near in (lines[:at] + lines[at + 1:], lines[:at] + [line] + lines[at:], lines[:at],
                             lines[:at] + lines[at + 1:other + 1] + [line] + lines[max(at, other) + 1:],
                             lines[:at] + [line + " "] + lines[at + 1:], lines[:at] + [" " + line] + lines[at + 1:],
                             lines[:at] + ["  " + line] + lines[at + 1:], lines[:at] + [line[2:]] + lines[at + 1:],
                             lines[:at] + [random.choice(SAID)] + lines[at:], lines[:at] + [line.upper()] + lines[at + 1:],
                             lines[:at] + [line.replace(" ", "  ", 1)] + lines[at + 1:], lines + [random.choice(SAID)],
                             lines[:at] + [line + "\r"] + lines[at + 1:], lines[:at] + [line.replace(" ", "\t", 1)]):
                    self.check("".join(one + "\n" for one in near))
                self.check("\n".join(lines[:at + 1]))
                self.check("\n".join(lines[:at] + [line[:len(line) // 2]]))

    def test_words_otherwise(self):
        random = Random(87)
        for thing in THINGS[:-len(FAR)]:
            lines = write(thing).split("\n")[:-1]
            for at in range(len(lines)):
                words = lines[at].split(" ")
                for number in range(len(words)):
                    for word in ("", "0", "-1", "+1", "01", "-0", "1", "99", "x", "do", words[number] + "0",
                                 "0" + words[number], "+" + words[number], "-" + words[number], random.choice(words)):
                        near = words[:number] + [word] + words[number + 1:]
                        self.check("".join(one + "\n" for one in lines[:at] + [" ".join(near)] + lines[at + 1:]))

    def test_random_lines(self):
        random = Random(88)
        for _ in range(4000):
            first = random.choice(SAID[:6])
            self.check("".join(one + "\n" for one in [first] + random.choices(SAID[6:], k=random.randint(0, 6))))

    def test_no_string(self):
        for thing in objects():
            if not isinstance(thing, str):
                with self.assertRaises(BadText) as caught:
                    read(thing)
                self.assertEqual(caught.exception.line, 0)

    def told_by(self, text):
        with self.assertRaises(BadText) as caught:
            read(text)
        return caught.exception.line

    def test_example(self):
        self.assertEqual(read(TOLD_TEXT), TOLD)
        for text, line in (
                (TOLD_TEXT + "      do cut\n", 8), ("program\n  behind\n", 3), ("web 2\nstep 0 2 0 0 1 0\n", 2),
                ("part 2\nin 0\nstep 0 1 0 0 1 0\n", 3), ("part 1\n", 1), ("part 2\nin 0\nin 1\n", 3), ("", 1),
                ("\n", 1), ("web 2", 1), ("web 0\n", 1), ("program\n", 2), ("part 3\n", 2), ("part 3\nin 2\n", 3),
                ("program\n  do a\n  do b\n", 3), ("program\n  often 2\n    hole\n", 3), ("works\nwork b 0 0 1 0\nwork a 0 0 1 0\n", 3),
                ("program\n  either\n    hole\n    hole\n", 4), ("program\n  again\n  do a\n", 3), ("web 1\nx", 2),
                ("program\n      do a\n", 2), ("web 2\nstep 0 0 0 0 1 0\nstep 0 0 0 0 1 0\n", 3), ("abc", 1), ("web 1\n\n", 2)):
            self.assertEqual(self.told_by(text), line, text)
            self.assertEqual(bad_line(text), line, text)

    def test_deep(self):
        text = "program\n" + "".join("  " * deep + "again\n" for deep in range(1, 80))
        self.assertEqual(self.told_by(text), 81)
        self.assertEqual(write(read(text + "  " * 80 + "do a\n")), text + "  " * 80 + "do a\n")

    def test_new_each_time(self):
        text = write(WORKS)
        told = read(text)
        told["x"] = 1
        self.assertEqual(read(text), WORKS)


if __name__ == "__main__":
    unittest.main()
