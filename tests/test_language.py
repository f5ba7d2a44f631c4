"""What of LANGUAGE.md can be seen without running the package, and the interface of DOC.md."""

import ast
import builtins
import importlib
import inspect
import unittest
from pathlib import Path

FOLDER = Path(__file__).resolve().parent.parent / "anyaround"
FILES = sorted(FOLDER.rglob("*.py"))
LIBRARY = {"math": {"gcd", "lcm", "isqrt", "comb", "perm", "factorial"}, "heapq": {"heappush", "heappop", "heapify"},
           "itertools": {"product", "combinations", "permutations", "chain", "accumulate", "pairwise", "islice"}}
BUILTINS = set("""len range enumerate zip min max sum abs sorted reversed int str bool bytes list tuple dict set
    frozenset isinstance ord repr any all divmod pow Exception ValueError TypeError KeyError IndexError LookupError
    ZeroDivisionError ArithmeticError OverflowError RuntimeError NotImplementedError AttributeError StopIteration
    NotImplemented""".split())
METHODS = set("""append clear copy count endswith extend find get index insert isalnum isalpha isdigit islower isspace
    isupper items join keys ljust lower lstrip partition pop remove replace reverse rfind rjust rpartition rsplit
    rstrip setdefault split splitlines startswith strip update upper values zfill bit_length add discard""".split())
NODES = set("""Module Expr Constant ImportFrom alias FunctionDef ClassDef arguments arg Assign AugAssign Return If While
    For Break Continue Pass Raise Call Name Load Store Attribute Subscript Slice Tuple List Dict ListComp DictComp
    comprehension BinOp Add Sub Mult FloorDiv Mod Pow BitAnd BitOr LShift RShift BoolOp And Or UnaryOp Not USub Compare
    Eq NotEq Lt LtE Gt GtE Is IsNot In NotIn IfExp keyword Starred Lambda Del Delete Try BitOr Invert""".split())
WORDS = set("""register mro elements open input law version_info typing enum Enum Generic Protocol ABC namedtuple
    NamedTuple TypedDict dataclass overload contextmanager eval exec compile globals locals vars dir""".split())

INTERFACE = {
    "webs": ["Web(places, steps)", "is_walk(web, thing)", "is_ring(web, thing)", "sum_of(web, walk)",
             "reached(web, place)", "lots(web)"],
    "rates": ["rate_at(web, place, prices)", "best_ring(web, place, prices)", "heights(web, place, prices, rate)",
              "ring_below(web, place, prices, rate)", "is_heights(web, place, prices, rate, thing)",
              "credit(web, place, prices)"],
    "rows": ["rows_of(web, place)", "best_rows(web, place)", "bends(web, place)", "prices_for(web, place, row)",
             "mix_under(web, place, row)"],
    "hadrates": ["mix_within(web, place, budget)", "prices_over(web, place, budget)"],
    "parts": ["Part(places, steps, ins, outs)", "is_pass(part, i, j, thing)", "closed(part, ways)"],
    "passes": ["corners(part, door)"],
    "stocks": ["need_of(web, walk)", "least_on(web, place)", "least_ons(web)", "way_on(web, place, stock)",
               "is_safe(web, thing)", "longest(web, place, stock)", "long_walk(web, place, stock)"],
    "stairs": ["most_out(web, place, other, stock)", "stairs(web, place, other)",
               "way_out(web, place, other, stock, wanted)", "covers(web, place, stock)",
               "is_cover(web, place, stock, thing)"],
    "kinds": ["worth_in(part, kind, surrounding)", "form(part, kind)", "alike(one, other, kind)",
              "apart(one, other, kind)", "never_worse(one, other, kind)", "worse_in(one, other, kind)",
              "papers(one, other, kind)", "are_papers(one, other, kind, thing)"],
    "fronts": ["pass_within(part, i, j, budget)", "bars(part, i, j, budget)", "is_bars(part, i, j, budget, thing)",
               "pass_upto(part, i, j, prices, bound)", "heights_over(part, i, j, prices, bound)"],
    "nets": ["wired(parts, links, ins, outs)", "behind(one, other)", "either(one, other)", "again(part, out, door)"],
    "pieces": ["pass_of(parts, links, ins, outs, k, l, pieces)", "pieces_of(parts, links, ins, outs, walk)"],
    "formparts": ["is_form(thing, kind)", "the_part(form, kind)"],
    "putting": ["put_together(forms, kind, links, ins, outs)", "worth_by(form, kind, surrounding)"],
    "copies": ["often(form, kind, many)", "often_out(form, many, stock)", "how_often(form, stock)"],
    "longchains": ["often_costs(form, many, prices, rate)", "often_worth(form, many, surrounding)"],
    "holes": ["filled(context, filler)", "keeps(context, kind, wish, filler)", "asked(context, kind, wish)",
              "enough(context, kind, wish, row)", "shown(context, kind, wish, filler)",
              "short_at(context, kind, wish, filler)", "is_shown(context, kind, wish, filler, thing)"],
    "learning": ["learned_stairs(box, most, gain)"],
    "slices": ["slice_of(form, i, j, prices)", "learned_slice(box, ticks, cost)"],
    "programs": ["is_program(thing)", "is_run(program, thing)", "is_beginning(program, thing)", "run_apart(one, other)",
                 "put_in(program, filler)"],
    "programparts": ["program_part(program, works)", "walk_of(program, works, names)",
                     "names_of(program, works, walk)"],
    "programforms": ["program_form(program, works, kind)"],
    "sureworks": ["once_counts(program)", "sure_papers(one, other, kind)", "are_sure_papers(one, other, kind, thing)",
                  "parting_works(one, other, kind)"],
    "legs": ["is_legs(web, place, thing)", "legs_sum(web, place, legs)", "legs_need(web, place, legs)",
             "legs_step(web, place, legs, number)", "first_below(web, place, legs, stock)"],
    "plans": ["is_plan(web, place, thing)", "plan_sum(web, place, plan, number)", "plan_rates(web, place, plan)",
              "plan_need(web, place, plan)", "plan_credit(web, place, plan, prices, rate)",
              "first_short(web, place, plan, prices, rate, credit)"],
    "running": ["turning(web, place, found, turns)", "chosen(web, place, stock, chooser, steps)"],
    "texts": ["write(thing)", "read(text)"],
    "houses": ["House()"],
    "seeing": ["sees(kind, other)", "pair_unseen(kind, other)", "is_unseen(kind, other, thing)",
               "seen_form(form, kind, other)"],
    "thrifts": ["thrift(web, place, prices, stock)", "thrifty(web, place, prices, stock)",
                "thrift_stairs(web, place, prices)", "thrift_paper(web, place, prices, stock, rate)",
                "is_thrift_paper(web, place, prices, stock, rate, thing)"]}
CLASSES = {"Web": ["places()", "steps()", "__eq__(other)"], "Part": ["web()", "ins()", "outs()", "__eq__(other)"],
           "House": ["put(name, thing)", "take(name)", "part(name)", "thing(name)", "names()", "users(name)",
                     "is_promise(thing)", "holds(promise)", "shown(promise)", "watch(promise)", "unwatch(promise)",
                     "watched()", "broken_by(name, thing)", "turned_by(name, thing, kind)", "undo()", "redo()", "done()",
                     "twin()", "trial(work)", "__eq__(other)"]}


def trees():
    return {path: ast.parse(path.read_text()) for path in FILES}


def module_of(path):
    return ".".join(path.relative_to(FOLDER.parent).with_suffix("").parts)


def bound(tree):
    return {node.name for node in tree.body if isinstance(node, (ast.FunctionDef, ast.ClassDef))} | {
        target.id for node in tree.body if isinstance(node, ast.Assign) for target in node.targets}


def imports(tree):
    return [node for node in tree.body if isinstance(node, ast.ImportFrom)]


class LanguageTest(unittest.TestCase):
    def test_folder(self):
        for path in FOLDER.rglob("*"):
            if "__pycache__" not in path.parts:
                self.assertEqual(path.suffix, ".py")
                self.assertTrue(path.stem.replace("_", "").isalnum() and path.stem.islower())
        self.assertTrue((FOLDER / "__init__.py").exists())
        self.assertLessEqual(len(FILES), 100)

    def test_characters_and_sizes(self):
        for path, tree in trees().items():
            text = path.read_text()
            self.assertTrue(all(sign == "\n" or " " <= sign <= "~" for sign in text), path.name)
            rows = text.split("\n")
            self.assertLessEqual(len(rows), 400)
            self.assertLessEqual(max(len(row) for row in rows), 120, path.name)
            for node in ast.walk(tree):
                if isinstance(node, ast.FunctionDef):
                    self.assertLessEqual(node.end_lineno - node.lineno + 1, 40, node.name)

    def test_module_level(self):
        for path, tree in trees().items():
            for k, node in enumerate(tree.body):
                plain = isinstance(node, (ast.ImportFrom, ast.FunctionDef, ast.ClassDef, ast.Assign))
                self.assertTrue(plain or k == 0 and isinstance(node, ast.Expr))
            self.assertIsNotNone(ast.get_docstring(tree))

    def test_imports(self):
        known = {module_of(path): bound(tree) for path, tree in trees().items()}
        for path, tree in trees().items():
            used = {node.id for node in ast.walk(tree) if isinstance(node, ast.Name)}
            for node in imports(tree):
                self.assertEqual(node.level, 0)
                names = known.get(node.module, LIBRARY.get(node.module))
                for alias in node.names:
                    self.assertIsNone(alias.asname)
                    self.assertIn(alias.name, names)
                    self.assertIn(alias.name, used)

    def test_no_rings_of_imports(self):
        needs = {module_of(path): {node.module for node in imports(tree)} for path, tree in trees().items()}
        while needs:
            free = [name for name in needs if not needs[name] & set(needs)]
            self.assertTrue(free)
            needs = {name: needs[name] for name in needs if name not in free}

    def test_nodes(self):
        for path, tree in trees().items():
            for node in ast.walk(tree):
                self.assertIn(type(node).__name__, NODES, getattr(node, "lineno", 0))
                if isinstance(node, (ast.FunctionDef, ast.ClassDef)):
                    self.assertEqual(node.decorator_list, [])
                if isinstance(node, ast.Constant):
                    self.assertNotIsInstance(node.value, (float, complex))
                if isinstance(node, ast.BinOp) and isinstance(node.op, ast.Pow):
                    self.assertIsInstance(node.right, ast.Constant)

    def test_builtins(self):
        for path, tree in trees().items():
            own = bound(tree) | {alias.name for node in imports(tree) for alias in node.names}
            taken = {alias.name for node in imports(tree) for alias in node.names} | {
                node.name for node in tree.body if isinstance(node, ast.ClassDef)}
            for node in ast.walk(tree):
                if isinstance(node, ast.Name) and isinstance(node.ctx, ast.Load) and node.id not in own:
                    if hasattr(builtins, node.id):
                        self.assertIn(node.id, BUILTINS, node.lineno)
                name = None
                if isinstance(node, ast.Name) and not isinstance(node.ctx, ast.Load):
                    name = node.id
                if isinstance(node, ast.arg):
                    name = node.arg
                if isinstance(node, (ast.FunctionDef, ast.ClassDef)) and node.name not in ("__init__", "__eq__"):
                    self.assertFalse(hasattr(builtins, node.name), node.name)
                if name is not None:
                    self.assertFalse(hasattr(builtins, name), (name, node.lineno))
                    self.assertNotIn(name, taken, node.lineno)

    def test_calls(self):
        own = {node.name for tree in trees().values() for node in ast.walk(tree) if isinstance(node, ast.FunctionDef)}
        for path, tree in trees().items():
            for node in ast.walk(tree):
                if not isinstance(node, ast.Call):
                    continue
                for one in node.args:
                    if isinstance(one, ast.Starred):
                        self.assertIsInstance(one.value, ast.Name, node.lineno)
                if isinstance(node.func, ast.Attribute):
                    self.assertIn(node.func.attr, METHODS | own, node.lineno)
                    self.assertNotEqual(node.func.attr, "sort")
                elif node.func.id in BUILTINS:
                    self.assertTrue({word.arg for word in node.keywords} <= {"key", "reverse", "default", "start"})
                    self.assertFalse(any(isinstance(one, ast.Starred) for one in node.args))

    def test_is(self):
        for path, tree in trees().items():
            for node in ast.walk(tree):
                if isinstance(node, ast.Compare):
                    for op, right in zip(node.ops, node.comparators):
                        if isinstance(op, (ast.Is, ast.IsNot)):
                            self.assertTrue(isinstance(right, ast.Constant) and right.value in (None, True, False))

    def test_words(self):
        for path, tree in trees().items():
            for node in ast.walk(tree):
                for name in [getattr(node, "id", None), getattr(node, "attr", None), getattr(node, "arg", None),
                             getattr(node, "name", None)]:
                    self.assertNotIn(name, WORDS | {"type"})
                    if isinstance(name, str) and name.startswith("__"):
                        self.assertIn(name, ("__init__", "__eq__"))
            for node in ast.walk(tree):
                if isinstance(node, ast.Constant) and isinstance(node.value, (str, bytes)):
                    self.assertNotIn("\\", repr(node.value).replace("\\n", ""))

    def test_docstrings(self):
        for path, tree in trees().items():
            for node in tree.body:
                if isinstance(node, (ast.FunctionDef, ast.ClassDef)):
                    self.assertIsNotNone(ast.get_docstring(node), node.name)


def parted(row):
    """The name and the names of the parameters of a row of the interface."""
    name, rest = row.rstrip(")").split("(")
    return name, rest.split(", ") if rest else []


class InterfaceTest(unittest.TestCase):
    def test_as_listed(self):
        for file, rows in INTERFACE.items():
            module = importlib.import_module("anyaround." + file)
            for row in rows:
                name, names = parted(row)
                thing = getattr(module, name)
                self.assertEqual(thing.__module__, "anyaround." + file)
                self.assertEqual(list(inspect.signature(thing).parameters), names)
                for method_row in CLASSES.get(name, []):
                    method, names = parted(method_row)
                    self.assertEqual(list(inspect.signature(vars(thing)[method]).parameters), ["self"] + names)


if __name__ == "__main__":
    unittest.main()
