"""Promises [18.1] to [18.7]: the house."""

import copy
import unittest
from random import Random

from anyaround.errors import (BadIns, BadKind, BadLinks, BadName, BadOuts, BadPromise, BadThing, Broken, InRing, InUse,
                              NoName, NotKept, NotWatched, UnlikeDoors, Watched)
from anyaround.houses import House
from anyaround.kinds import alike, apart, form, papers, worse_in, worth_in
from anyaround.nets import wired
from anyaround.parts import Part

from tests.brute import P_STEPS, objects, part_p
from tests.plain import KINDS
from tests.plain_house import PlainHouse, random_net, random_promise, small_part, tuples
from tests.plain_programs import turned

P = part_p()
Q = Part(3, P_STEPS + [(0, 2, (1, 3), 2, 0)], [0], [2])
R = Part(2, [(0, 1, (2, 2), 1, 0)], [0], [1])
WIDE = Part(4, [(0, 2, (1, 1), 1, 0), (1, 3, (1, 1), 1, 0)], [0, 1], [2, 3])
BELOW = Part(2, [(0, 1, (-1, 2), 1, 0)], [0], [1])
LINE = (["mill", "mill"], [(0, 0, 1, 0)], [[(0, 0)]], [[(1, 0)]])
PROMISE = ("worth", "line", "prices", (0, 0, (1, 1)), 6)
NO_NAMES = ["", "A", "1a", "a b", "toolonger", "a_"]


def house_of(**things):
    house = House()
    for name, thing in things.items():
        house.put(name, thing)
    return house


def lined():
    return house_of(mill=P, line=LINE)


def whole_state(house):
    """All that can be asked of a house."""
    return (house.names(), {name: (house.thing(name), house.users(name)) for name in house.names()}, house.watched(),
            house.done())


class CaseWithHouses(unittest.TestCase):
    def refused(self, house, error, call, **kept):
        """What a call raises; it changes nothing."""
        ahead, twin = whole_state(house), house.twin()
        with self.assertRaises(error) as caught:
            call()
        self.assertIs(type(caught.exception), error)
        for name, thing in kept.items():
            self.assertIs(getattr(caught.exception, name), thing)
        self.assertEqual(whole_state(house), ahead)
        self.assertEqual(house, twin)
        return caught.exception


class ThingsTest(CaseWithHouses):
    def test_put_and_asked(self):
        house = House()
        self.assertEqual((house.names(), house.watched(), house.done()), ({}, [], []))
        self.assertIsNone(house.put("mill", P))
        self.assertIsNone(house.put(name="line", thing=turned(LINE)))
        house.put("a", WIDE)
        self.assertEqual(list(house.names().items()), [("a", "part"), ("line", "net"), ("mill", "part")])
        self.assertEqual(house.part("mill"), P)
        self.assertEqual(house.part("line"), wired([P, P], *LINE[1:]))
        self.assertEqual(house.thing("mill"), P)
        thing = house.thing("line")
        self.assertEqual(thing, (("mill", "mill"), ((0, 0, 1, 0),), (((0, 0),),), (((1, 0),),)))
        self.assertEqual(house.users("mill"), ["line"])
        self.assertEqual(house.users("line"), [])
        house.put("mill", Q)
        self.assertEqual(house.part("line"), wired([Q, Q], *LINE[1:]))

    def test_nets_of_nets(self):
        house = lined()
        house.put("b", (["line", "mill"], [(0, 0, 1, 0), (1, 0, 0, 0)], [[(0, 0), (1, 0)]], [[(1, 0)]]))
        house.put("abc", (["b"], [], [[(0, 0)]], [[(0, 0)]]))
        self.assertEqual(house.users("mill"), ["abc", "b", "line"])
        self.assertEqual(house.users("line"), ["abc", "b"])
        self.assertEqual(house.users("abc"), [])
        for part in (Q, R):
            house.put("mill", part)
            line = wired([part, part], *LINE[1:])
            both = wired([line, part], [(0, 0, 1, 0), (1, 0, 0, 0)], [[(0, 0), (1, 0)]], [[(1, 0)]])
            self.assertEqual(house.part("b"), both)
            self.assertEqual(house.part("abc"), wired([both], [], [[(0, 0)]], [[(0, 0)]]))
        house.put("line", R)
        self.assertEqual(house.users("mill"), ["abc", "b"])
        self.assertEqual(house.names()["line"], "part")

    def test_what_is_passed_later(self):
        names, links, ins, outs = [copy.deepcopy(one) for one in LINE]
        house = house_of(mill=P, line=[names, links, ins, outs])
        names.append("x")
        links.clear()
        ins[0].clear()
        self.assertEqual(house.thing("line"), tuples(LINE))
        house.names()["x"] = 1
        house.users("mill").append("x")
        self.assertEqual(house.names(), {"line": "net", "mill": "part"})
        self.assertEqual(house.users("mill"), ["line"])

    def test_put_errors(self):
        house = lined()
        house.put("other", (["line"], [], [[(0, 0)]], [[(0, 0)]]))
        for name in NO_NAMES + [thing for thing in objects() if thing != "ab"]:
            self.refused(house, BadName, lambda: house.put(name, None), name=name)
        none = [thing for thing in objects() if not isinstance(thing, Part)] + [
            ([], [], [[(0, 0)]], [[(0, 0)]]), ("mill", [], [], []), (["mill"], [], []), (["mill", 1], 0, 0, 0),
            (["mill", ""], 0, 0, 0), ({"mill": 1}, 0, 0, 0), (["mill"], 0, 0, 0, 0), (["zz", None], 0, 0, 0)]
        for thing in none:
            self.refused(house, BadThing, lambda: house.put("mill", thing), thing=thing)
            self.refused(house, BadThing, lambda: house.put("new", thing), thing=thing)
        self.assertEqual(self.refused(house, NoName, lambda: house.put("mill", (["mill", "zz", "y"], 0, 0, 0))).name, "zz")
        self.assertEqual(self.refused(house, NoName, lambda: house.put("new", (["new"], 0, 0, 0))).name, "new")
        for inner in (["mill"], ["line"], ["other"], ["other", "mill"]):
            mill = "mill"
            self.refused(house, InRing, lambda: house.put(mill, (inner, 0, 0, 0)), name=mill)
        self.refused(house, InRing, lambda: house.put("line", (["mill", "other"], 0, 0, 0)))
        good = [[(0, 0)]]
        for links, ins, outs, error, index in (
                (0, 0, 0, BadLinks, 0), ([(0, 0, 0, 0), (0, 0, 1, 0)], 0, 0, BadLinks, 1), ([], 0, 0, BadIns, 0),
                ([], [[(0, 0)], []], 0, BadIns, 1), ([], good, [], BadOuts, 0), ([], good, good + [[(0, 1)]], BadOuts, 1)):
            for name in ("new", "other"):
                found = self.refused(house, error, lambda: house.put(name, (["mill"], links, ins, outs)))
                self.assertEqual(found.index, index)
        self.refused(house, UnlikeDoors, lambda: house.put("mill", WIDE))
        self.refused(house, UnlikeDoors, lambda: house.put("line", WIDE))
        self.refused(house, UnlikeDoors, lambda: house.put("other", (["mill"], [], good * 2, good)))
        self.refused(house, UnlikeDoors, lambda: house.put("mill", Part(3, [], [0], [1, 2])))

    def test_take(self):
        house = lined()
        for name in ("zz", "", None, 1, True, ["mill"], ("mill",), {}, P, len):
            for call in (house.take, house.part, house.thing, house.users):
                self.refused(house, NoName, lambda: call(name), name=name)
        house.put("abc", (["mill"], [], [[(0, 0)]], [[(0, 0)]]))
        self.assertEqual(self.refused(house, InUse, lambda: house.take("mill")).user, "abc")
        house.watch(PROMISE)
        house.watch(("alike", "abc", "mill", "on"))
        self.assertEqual(self.refused(house, InUse, lambda: house.take("line")).user, PROMISE)
        self.assertEqual(self.refused(house, InUse, lambda: house.take("mill")).user, "abc")
        self.assertEqual(self.refused(house, InUse, lambda: house.take("abc")).user, ("alike", "abc", "mill", "on"))
        house.unwatch(("alike", "abc", "mill", "on"))
        self.assertIsNone(house.take("abc"))
        self.assertEqual(self.refused(house, InUse, lambda: house.take("mill")).user, "line")
        house.unwatch(PROMISE)
        house.take("line")
        house.take("mill")
        self.assertEqual(house.names(), {})
        house.put("mill", WIDE)


class PromisesTest(CaseWithHouses):
    RIGHT = [("under", "mill", "line", "rates"), ("alike", "line", "line", "through"), PROMISE,
             ("worth", "mill", "rates", (0, [], (1, 1)), None), ("worth", "mill", "rates", (0, [], (1, 1)), (2, 4)),
             ("worth", "mill", "rates", (0, [(0, 0, (0, 0), 1, 0)], (2, 1)), (-4, 1)),
             ("worth", "mill", "prices", (0, 0, (1, 1)), None), ("worth", "mill", "prices", (0, 0, (1, 1)), -3),
             ("worth", "mill", "through", (0, 0, 1, 1), True), ("worth", "mill", "on", (0, [], [(0, 1)], 1), False),
             ("worth", "line", "budgets", (0, 0, (None, 3)), False), ("under", "below", "mill", "on")]
    WRONG = [("under", "mill", "line"), ("under", "mill", "line", "rates", 1), ("over", "mill", "line", "rates"),
             ("under", "mill", "zz", "rates"), ("under", "zz", "mill", "rates"), ("under", "mill", "line", "rate"),
             ("under", "mill", "wide", "rates"), ("alike", "wide", "mill", "on"), ("alike", 1, "mill", "on"),
             ("alike", "mill", ["mill"], "on"), ("alike", "mill", "mill", None), ("under", "below", "mill", "prices"),
             ("under", "mill", "below", "budgets"), ("worth", "below", "prices", (0, 0, (1, 1)), 6),
             ("worth", "line", "prices", (0, 1, (1, 1)), 6), ("worth", "line", "prices", (0, 0, (0, 1)), 6),
             ("worth", "line", "prices", (0, 0, (1, 1)), True), ("worth", "line", "prices", (0, 0, (1, 1)), (6, 1)),
             ("worth", "line", "prices", (0, 0, (1, 1))), ("worth", "line", "prices", (0, 0, (1, 1)), 6, 7),
             ("worth", "line", "rates", (0, [], (1, 1)), 6), ("worth", "line", "rates", (0, [], (1, 1)), (6, 0)),
             ("worth", "line", "rates", (0, [], (1, 1)), False), ("worth", "line", "on", (0, [], [], 1), 1),
             ("worth", "line", "on", (0, [], [], 1), None), ("worth", "line", "through", (0, 0, 1), True),
             ("worth", "line", "budgets", (0, 0, (1, 1)), 0), ("worth", "zz", "on", (0, [], [], 1), True),
             ("worth", "line", "kind", (0, [], [], 1), True), ("worth", "line", "on", None, True), (), ("worth",),
             ("under",), (["under"], "mill", "line", "on"), {"under": 1}, "worth", (1, "mill", "line", "on")]

    def house(self):
        return house_of(mill=P, line=LINE, wide=WIDE, below=BELOW)

    def test_is_promise(self):
        house = self.house()
        for promise in self.RIGHT:
            self.assertIs(house.is_promise(promise), True, promise)
            self.assertIs(house.is_promise(turned(promise)), True, promise)
        for promise in self.WRONG + objects():
            self.assertIs(house.is_promise(promise), False, promise)
            for call in (house.holds, house.shown, house.watch):
                self.refused(house, BadPromise, lambda: call(promise), promise=promise)
        house.take("wide")
        self.assertFalse(house.is_promise(("alike", "wide", "wide", "on")))

    def test_holds(self):
        house = self.house()
        for promise, expected in (
                (PROMISE, True), (PROMISE[:4] + (5,), False), (PROMISE[:4] + (7,), True), (PROMISE[:4] + (None,), True),
                (("worth", "mill", "rates", (0, [], (1, 1)), (2, 1)), True),
                (("worth", "mill", "rates", (0, [], (1, 1)), (4, 2)), True),
                (("worth", "mill", "rates", (0, [], (1, 1)), (19, 10)), False),
                (("worth", "wide", "rates", (0, [], (1, 1)), (19, 10)), False),
                (("worth", "wide", "rates", (0, [], (1, 1)), None), True),
                (("worth", "wide", "prices", (0, 1, (1, 1)), 9), False),
                (("worth", "wide", "prices", (0, 1, (1, 1)), None), True),
                (("worth", "mill", "through", (0, 0, 3, 3), True), True),
                (("worth", "mill", "through", (0, 0, 3, 4), True), False),
                (("worth", "mill", "through", (0, 0, 3, 4), False), True),
                (("worth", "mill", "budgets", (0, 0, (1, 3)), True), False),
                (("worth", "mill", "on", (0, [], [], 0), True), True), (("under", "mill", "line", "budgets"), True),
                (("under", "line", "mill", "budgets"), False), (("alike", "mill", "line", "through"), True),
                (("alike", "mill", "line", "prices"), False)):
            self.assertIs(house.holds(promise), expected, promise)
            self.assertIs(house.holds(turned(promise)), expected)
            self.assertIs(house.shown(promise)[0], expected)

    def test_shown(self):
        house = self.house()
        mill, line = house.part("mill"), house.part("line")
        for kind in KINDS:
            for one, other, mine, theirs in (("mill", "line", mill, line), ("line", "mill", line, mill)):
                told = house.shown(("under", one, other, kind))
                worse = worse_in(mine, theirs, kind)
                self.assertEqual(told, (True, papers(mine, theirs, kind)) if worse is None else (False, worse))
                told = house.shown(["alike", one, other, kind])
                differ = apart(mine, theirs, kind)
                self.assertEqual(told, (True, form(mine, kind)) if differ is None else (False, differ))
        self.assertEqual(house.shown(PROMISE), (True, 6))
        self.assertEqual(house.shown(PROMISE[:4] + (4,)), (False, 6))
        self.assertEqual(house.shown(("worth", "wide", "rates", (0, [], (1, 1)), (1, 1))), (False, None))
        told = house.shown(("alike", "mill", "mill", "rates"))
        told[1].clear()
        self.assertEqual(house.shown(("alike", "mill", "mill", "rates"))[1], form(P, "rates"))

    def test_watch(self):
        house = self.house()
        first = ("worth", "mill", "rates", (0, [(0, 0, (0, 0), 1, 0)], (1, 1)), (1, 1))
        self.assertIsNone(house.watch(turned(first)))
        self.assertEqual(house.watched(), [tuples(first)])
        self.assertEqual(str(house.watched()), str([tuples(first)]))
        for again in (first, turned(first), tuples(first)):
            self.refused(house, Watched, lambda: house.watch(again), promise=again)
        other = first[:4] + ((2, 2),)
        house.watch(other)
        self.refused(house, Watched, lambda: house.watch(other), promise=other)
        broken = first[:4] + ((1, 2),)
        self.refused(house, NotKept, lambda: house.watch(broken), promise=broken)
        house.watch(PROMISE)
        self.assertEqual(house.watched(), [tuples(first), tuples(other), PROMISE])
        none = objects() + [broken, PROMISE[:4], PROMISE + (1,), PROMISE[:4] + (7,), [list(PROMISE)],
                            ("worth", "line", "prices", (False, 0, (1, 1)), 6), ("worth", "line", "prices", (0, 0, (1, True)), 6),
                            ("worth", "zz", "prices", (0, 0, (1, 1)), 6)]
        for promise in none:
            self.refused(house, NotWatched, lambda: house.unwatch(promise), promise=promise)
        self.assertIsNone(house.unwatch(turned(first)))
        self.assertEqual(house.watched(), [tuples(other), PROMISE])
        house.watched().clear()
        self.assertEqual(len(house.watched()), 2)
        house.watch(first)
        self.assertEqual(house.watched(), [tuples(other), PROMISE, tuples(first)])

    def test_broken(self):
        house = self.house()
        house.put("mate", P)
        promises = [PROMISE, ("alike", "mill", "mate", "prices"), ("under", "line", "line", "prices"),
                    ("worth", "mill", "on", (0, (), (), 0), True)]
        for promise in promises:
            house.watch(turned(promise))
        self.assertEqual(house.broken_by("mill", R), [PROMISE, promises[1], promises[3]])
        self.assertEqual(self.refused(house, Broken, lambda: house.put("mill", R)).promise, PROMISE)
        house.unwatch(PROMISE)
        self.assertEqual(self.refused(house, Broken, lambda: house.put("mill", R)).promise, promises[1])
        self.assertEqual(house.broken_by("mill", Q), [])
        house.put("mill", Q)
        # A part with an amount below 0 makes promises of prices none.
        self.assertEqual(house.broken_by("mill", Part(2, [(0, 0, (9, 9), 1, 0), (0, 1, (-1, 2), 1, 0)], [0], [1])),
                         [promises[1], promises[2]])
        self.assertEqual(house.broken_by("mate", (["mill"], [], [[(0, 0)]], [[(0, 0)]])), [])
        for thing, error in ((WIDE, UnlikeDoors), ((["zz"], 0, 0, 0), NoName), (3, BadThing)):
            self.refused(house, error, lambda: house.broken_by("mill", thing))
            self.refused(house, error, lambda: house.turned_by("mill", thing, "on"))
        self.refused(house, BadName, lambda: house.broken_by("", thing))
        self.assertEqual(house.broken_by("new", R), [])

    def test_turned_by(self):
        house = lined()
        house.watch(PROMISE)
        self.assertEqual(house.turned_by("mill", R, "prices"), {"line": "worse", "mill": "worse"})
        self.assertEqual(house.turned_by("mill", Q, "prices"), {})
        self.assertEqual(list(house.turned_by("mill", Q, "budgets").items()), [("line", "better"), ("mill", "better")])
        self.assertEqual(house.turned_by("mill", BELOW, "prices"), {})
        self.assertEqual(house.turned_by("mill", BELOW, "rates"), {"line": "beside", "mill": "beside"})
        self.assertEqual(house.turned_by("new", R, "rates"), {})
        for kind in ("rate", None, 1, ["on"]):
            self.refused(house, BadKind, lambda: house.turned_by(None, None, kind), kind=kind)


class BackTest(CaseWithHouses):
    def test_undo_and_redo(self):
        house = House()
        self.assertIsNone(house.undo())
        self.assertIsNone(house.redo())
        house.put("mill", P)
        house.put("line", LINE)
        house.watch(PROMISE)
        house.unwatch(PROMISE)
        house.take("line")
        words = ["put", "put", "watch", "unwatch", "take"]
        self.assertEqual(house.done(), words)
        states = [whole_state(house)]
        for number in range(5):
            self.assertEqual(house.undo(), words[4 - number])
            states.append(whole_state(house))
        self.assertIsNone(house.undo())
        self.assertEqual(house, House())
        for number in range(5):
            self.assertEqual(whole_state(house), states[5 - number])
            self.assertEqual(house.redo(), words[number])
        self.assertIsNone(house.redo())
        self.assertEqual(whole_state(house), states[0])
        house.undo()
        house.undo()
        with self.assertRaises(NoName):
            house.take("zz")
        self.assertEqual(house.redo(), "unwatch")
        house.undo()
        house.put("x", R)
        self.assertIsNone(house.redo())
        self.assertEqual(house.done(), ["put", "put", "watch", "put"])

    def test_twin(self):
        house = lined()
        house.watch(PROMISE)
        house.undo()
        twin = house.twin()
        self.assertEqual(twin, house)
        self.assertIsNot(twin, house)
        self.assertEqual(twin.redo(), "watch")
        self.assertEqual((house.watched(), twin.watched()), ([], [PROMISE]))
        self.assertNotEqual(twin, house)
        house.put("mill", R)
        self.assertEqual(twin.part("mill"), P)
        self.assertIsNone(house.redo())
        for _ in range(3):
            twin.undo()
        self.assertEqual(house.names(), {"mill": "part", "line": "net"})
        self.assertEqual((twin.names(), twin.done(), house.done()), ({}, [], ["put", "put", "put"]))

    def test_trial(self):
        house = lined()
        house.watch(PROMISE)
        house.undo()
        ahead, twin = whole_state(house), house.twin()

        def work(inner):
            self.assertIs(inner, house)
            inner.put("x", R)
            inner.undo()
            inner.undo()
            inner.undo()
            inner.put("z", WIDE)
            self.assertEqual(inner.trial(deeper), "deep")
            self.assertEqual(inner.names(), {"z": "part"})
            with self.assertRaises(ZeroDivisionError):
                inner.trial(lambda one: (one.take("z"), 1 // 0))
            self.assertEqual(inner.done(), ["put"])
            return ["told"]

        def deeper(inner):
            inner.take("z")
            inner.put("y", P)
            return "deep"

        self.assertEqual(house.trial(work), ["told"])
        self.assertEqual(whole_state(house), ahead)
        self.assertEqual(house, twin)
        self.assertEqual(house.redo(), "watch")
        house.undo()

        def failing(inner):
            inner.put("mill", R)
            raise KeyError("x")

        with self.assertRaises(KeyError):
            house.trial(work=failing)
        self.assertEqual(whole_state(house), ahead)
        self.assertEqual((house.redo(), house.watched()), ("watch", [PROMISE]))

    def test_equal(self):
        self.assertEqual(lined(), lined())
        self.assertEqual(lined(), house_of(line=R, mill=Part(3, P_STEPS[::-1], [0], [2])).trial(
            lambda house: (house.put("line", turned(LINE)), house.twin())[1]))
        self.assertNotEqual(lined(), house_of(mill=P))
        self.assertNotEqual(lined(), house_of(mill=Q, line=LINE))
        self.assertNotEqual(lined(), house_of(mill=P, line=wired([P, P], *LINE[1:])))
        one, other = lined(), lined()
        one.watch(PROMISE)
        self.assertNotEqual(one, other)
        other.watch(turned(PROMISE))
        self.assertEqual(one, other)
        more = ("alike", "mill", "mill", "on")
        one.watch(more)
        other.unwatch(PROMISE)
        other.watch(more)
        other.watch(PROMISE)
        self.assertNotEqual(one, other)
        for thing in objects():
            self.assertNotEqual(House(), thing)


class RandomTest(CaseWithHouses):
    def test_like_the_plain_house(self):
        for seed in range(25):
            random, house, plain = Random(9000 + seed), House(), PlainHouse()
            for _ in range(45):
                self.deed(random, house, plain)
                self.assertEqual(house.names(), {name: "part" if isinstance(thing, Part) else "net"
                                                 for name, thing in sorted(plain.now[0].items())})
                self.assertEqual(house.watched(), plain.now[1])
                self.assertEqual(house.done(), [word for word, _ in plain.past])
            for name in house.names():
                self.assertEqual(house.part(name), plain.part(name))
                self.assertEqual(house.users(name), plain.users(name))
            for promise in house.watched():
                self.assertTrue(house.holds(promise))

    def deed(self, random, house, plain):
        names = sorted(plain.now[0])
        sort = random.random()
        if sort < 0.45 or not names:
            self.put(random, house, plain, names)
        elif sort < 0.55:
            name = random.choice(names)
            users = [user for user in names if not isinstance(plain.now[0][user], Part) and name in plain.now[0][user][0]]
            users += [promise for promise in plain.now[1] if name in promise[1:2 if promise[0] == "worth" else 3]]
            if users:
                self.assertEqual(self.refused(house, InUse, lambda: house.take(name)).user, users[0])
            else:
                house.take(name)
                plain.do("take", {one: plain.now[0][one] for one in names if one != name}, plain.now[1])
        elif sort < 0.75:
            promise = random_promise(random, plain, names)
            if promise is not None:
                self.watch(house, plain, promise)
        elif sort < 0.8 and plain.now[1]:
            promise = random.choice(plain.now[1])
            house.unwatch(promise)
            plain.do("unwatch", plain.now[0], [one for one in plain.now[1] if one != promise])
        elif sort < 0.92:
            self.assertEqual(house.undo(), plain.back(plain.past, plain.later))
        else:
            self.assertEqual(house.redo(), plain.back(plain.later, plain.past))

    def watch(self, house, plain, promise):
        holds = plain.holds(promise)
        self.assertTrue(house.is_promise(promise))
        self.assertIs(house.holds(promise), holds)
        if tuples(promise) in plain.now[1]:
            self.refused(house, Watched, lambda: house.watch(promise), promise=promise)
        elif not holds:
            self.refused(house, NotKept, lambda: house.watch(promise), promise=promise)
        else:
            house.watch(promise)
            plain.do("watch", plain.now[0], plain.now[1] + [tuples(promise)])

    def put(self, random, house, plain, names):
        name = random.choice("abcdef")
        thing = random_net(random, plain, names) if names and random.random() < 0.4 else None
        if thing is None:
            ahead = plain.part(name) if name in names else None
            thing = small_part(random) if ahead is None else small_part(random, len(ahead.ins()), len(ahead.outs()))
        elif name in thing[0] or set(thing[0]) & set(plain.users(name)):
            if name in names:
                self.refused(house, InRing, lambda: house.put(name, thing), name=name)
            return
        if name in names:
            ahead, behind = plain.part(name), plain.part(name, plain.behind(name, thing))
            if (len(ahead.ins()), len(ahead.outs())) != (len(behind.ins()), len(behind.outs())):
                self.refused(house, UnlikeDoors, lambda: house.put(name, thing))
                return
        broken = plain.broken_by(name, thing)
        self.assertEqual(house.broken_by(name, thing), broken)
        for kind in KINDS:
            self.assertEqual(house.turned_by(name, thing, kind), plain.turned_by(name, thing, kind))
        if broken:
            self.assertEqual(self.refused(house, Broken, lambda: house.put(name, thing)).promise, broken[0])
        else:
            house.put(name, thing)
            plain.do("put", plain.behind(name, thing), plain.now[1])

    def test_what_turns(self):
        random = Random(93)
        for _ in range(60):
            house = House()
            for name in "ab":
                house.put(name, small_part(random, 1, 1))
            house.put("c", (["a", "b", "a"], [(0, 0, 1, 0), (1, 0, 2, 0), (1, 0, 0, 0)], [[(0, 0), (1, 0)]], [[(2, 0)]]))
            house.put("d", (["c"], [(0, 0, 0, 0)], [[(0, 0)]], [[(0, 0)]]))
            ahead, thing = house.part("a"), small_part(random, 1, 1)
            for kind in KINDS:
                told = house.turned_by("a", thing, kind)
                self.assertLessEqual(set(told), {"a", "c", "d"})
                if "a" in told and told["a"] != "beside":
                    self.assertEqual(set(told.values()), {told["a"]})
                if kind in ("rates", "through", "on") and alike(ahead, thing, kind):
                    self.assertEqual(told, {})


class ExampleTest(unittest.TestCase):
    def test_example(self):
        house = lined()
        self.assertEqual(house.users("mill"), ["line"])
        with self.assertRaises(InUse) as caught:
            house.take("mill")
        self.assertEqual(caught.exception.user, "line")
        self.assertTrue(house.holds(PROMISE))
        self.assertEqual(house.broken_by("mill", R), [])
        house.watch(PROMISE)
        self.assertEqual(house.broken_by("mill", R), [PROMISE])
        self.assertEqual(house.turned_by("mill", R, "prices"), {"line": "worse", "mill": "worse"})
        self.assertEqual(house.turned_by("mill", Q, "prices"), {})
        self.assertEqual(house.turned_by("mill", Q, "budgets"), {"line": "better", "mill": "better"})
        self.assertEqual(form(house.part("line"), "budgets"), [[[(0, 8), (2, 5), (4, 2)]]])
        house.put("mill", Q)
        self.assertEqual(form(house.part("line"), "budgets"), [[[(0, 8), (1, 7), (2, 5), (3, 4), (4, 2)]]])
        self.assertEqual(worth_in(house.part("line"), "prices", (0, 0, (1, 1))), 6)


if __name__ == "__main__":
    unittest.main()
