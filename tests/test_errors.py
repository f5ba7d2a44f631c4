import unittest

from anyaround import errors, refusals

HERE = {
    "BadFraction": "thing", "BadPrices": "thing", "BadPlaces": "places", "BadSteps": "index", "BadWalk": "walk",
    "BadPlace": "place", "BadRow": "row", "BadBudget": "budget", "BadIns": "index", "BadOuts": "index",
    "BadDoor": "number", "BadWays": "index", "BadKind": "kind", "BadSurrounding": "surrounding", "UnlikeDoors": None,
    "HasBelow": "step", "BadStock": "stock", "BadWanted": "wanted", "BadBound": "bound", "BadParts": "index",
    "BadLinks": "index", "BadPieces": "index", "BadName": "name", "BadThing": "thing", "NoName": "name",
    "InRing": "name", "InUse": "user", "BadPromise": "promise", "Watched": "promise", "NotKept": "promise",
    "NotWatched": "promise", "Broken": "promise", "BadContext": "thing", "BadFiller": "thing", "BadWish": "wish",
    "BadForm": "thing", "BadForms": "index", "BadMany": "many", "TooGreat": "rate", "Unseen": None,
    "BadAnswer": "thing", "BadMost": "most", "BadGain": "gain", "BadTicks": "ticks", "BadCost": "cost",
    "Unfit": "way"}
THERE = {
    "BadProgram": "thing", "BadWorks": "works", "NoWork": "name", "BareHole": None, "NoBeginning": "names",
    "NoHole": None, "HasHole": None, "BadLegs": "legs", "BadNumber": "number", "BadPlan": "plan", "BadMix": "found",
    "BadChooser": "chooser", "BadText": "line"}


class ErrorsTest(unittest.TestCase):
    def test_base(self):
        self.assertEqual(errors.AroundError.__bases__, (ValueError,))
        self.assertEqual(errors.AroundError.__module__, "anyaround.errors")

    def check(self, module, table):
        for name, param in table.items():
            with self.subTest(name):
                made = getattr(module, name)
                self.assertEqual(made.__bases__, (errors.AroundError,))
                self.assertEqual(made.__module__, module.__name__)
                self.assertEqual(made.__name__, name)
                if param is None:
                    self.assertIsInstance(made(), ValueError)
                    continue
                for thing in (["very", "object"], {}, 5, None, len):
                    self.assertIs(getattr(made(thing), param), thing)
                    self.assertIs(getattr(made(**{param: thing}), param), thing)

    def test_errors(self):
        self.check(errors, HERE)

    def test_refusals(self):
        self.check(refusals, THERE)

    def test_no_others(self):
        for module, table in ((errors, HERE), (refusals, THERE)):
            own = {name for name, thing in vars(module).items()
                   if isinstance(thing, type) and thing.__module__ == module.__name__}
            self.assertEqual(own - {"AroundError"}, set(table))

    def test_raised_and_caught(self):
        for module, table in ((errors, HERE), (refusals, THERE)):
            for name, param in table.items():
                made = getattr(module, name)
                with self.assertRaises(errors.AroundError):
                    raise made() if param is None else made("x")


if __name__ == "__main__":
    unittest.main()
