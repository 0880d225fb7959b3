"""The interface stands where the document lists it, and the package keeps to the plain subset of the language."""

import ast
import builtins
import inspect
import pathlib
import unittest
from importlib import import_module

PACKAGE = pathlib.Path(__file__).parent.parent / "tornsaves"
ALLOWED = set(
    "len range enumerate zip min max sum abs sorted reversed int str bool bytes list tuple dict set frozenset isinstance"
    " ord repr any all divmod ValueError".split()
)
NODES = (
    ast.Try, ast.Global, ast.AsyncFunctionDef, ast.Await, ast.Import, ast.SetComp, ast.Set, ast.GeneratorExp, ast.With,
    ast.AnnAssign, ast.NamedExpr, ast.Div, ast.Mod, ast.Pow, ast.Match, ast.Assert, ast.Nonlocal,
)
INTERFACE = {
    "programs": {"is_program": "(value)", "save_steps": "(program)", "plain": "(program, store)"},
    "plans": {
        "saved_variables": "(program, plan)", "splits": "(program, one, other)", "contains": "(program, one, other)",
        "plans": "(program)",
    },
    "runs": {"trace": "(program, plan, store, *, most=1000)", "replay": "(program, plan, value, crashes)"},
    "deciding": {
        "decide": "(program, plan, inputs, *, loss=None)", "loss_of": "(program, plan, inputs)",
        "Sufficient": "(stores)", "Insufficient": "(value, crashes)",
    },
    "families": {
        "sufficient_plans": "(program, inputs, *, loss=None)", "minimal_plans": "(program, inputs, *, loss=None)",
        "finest_plans": "(program, inputs, *, loss=None)", "breaches": "(program, inputs, *, loss=None)",
        "family": "(program, inputs, *, loss=None)", "Family": "(plans, runs)",
    },
    "evidence": {"Evidence": "()", "WithRuns": "(runs)"},
    "dependence": {
        "sufficient_groupings": "(program, saves, names, inputs, *, loss=None)",
        "finest_groupings": "(program, saves, names, inputs, *, loss=None)",
        "dependences": "(program, saves, names, inputs, *, loss=None)", "Dependences": "(together, first, shown, runs)",
    },
    "costs": {
        "plan_cost": "(program, plan, weights)", "cheapest": "(program, inputs, weights, *, loss=None)",
        "Cheapest": "(plan, cost, runs)", "frontier": "(program, inputs, weights)",
    },
    "placing": {
        "extended": "(program, *positions)", "best_positions": "(program, groups, inputs, *, loss=None)",
        "Placed": "(positions, loss)",
    },
    "origins": {"origins": "(program, plan, inputs, store)"},
    "executions": {"Execution": "(program, plan, value)"},
    "texts": {"written": "(program, plan)", "read": "(text)"},
    "encoding": {"encode_crashes": "(crashes)", "decode_crashes": "(text)"},
}
METHODS = {
    ("deciding", "Sufficient", "is_correct"): "(self, program, plan, inputs, *, loss=None)",
    ("deciding", "Insufficient", "is_correct"): "(self, program, plan, inputs, *, loss=None)",
    ("families", "Family", "is_correct"): "(self, program, inputs, *, loss=None)",
    ("evidence", "WithRuns", "are_from"): "(self, inputs)",
    ("dependence", "Dependences", "is_correct"): "(self, program, saves, names, inputs, *, loss=None)",
    ("costs", "Cheapest", "is_correct"): "(self, program, inputs, weights, *, loss=None)",
    ("executions", "Execution", "move"): "(self)",
    ("executions", "Execution", "crash"): "(self)",
    ("executions", "Execution", "moves"): "(self, limit)",
    ("executions", "Execution", "tried"): "(self, *events)",
}
PROPERTIES = {
    ("evidence", "Evidence"): ["fields"], ("evidence", "WithRuns"): ["fields"],
    ("executions", "Execution"): ["state", "is_over", "history", "result"],
}


def trees():
    for path in sorted(PACKAGE.glob("*.py")):
        yield path, ast.parse(path.read_text())


class Interface(unittest.TestCase):
    def test_names_and_parameters(self):
        for name, rows in INTERFACE.items():
            module = import_module(f"tornsaves.{name}")
            for word, parameters in rows.items():
                found = getattr(module, word)
                self.assertEqual(found.__module__, module.__name__)
                self.assertEqual(str(inspect.signature(found)), parameters, word)

    def test_methods_stand_in_their_classes(self):
        for (name, word, method), parameters in METHODS.items():
            found = vars(getattr(import_module(f"tornsaves.{name}"), word))[method]
            self.assertEqual(str(inspect.signature(found)), parameters)
        for (name, word), rows in PROPERTIES.items():
            for found in rows:
                self.assertIsInstance(vars(getattr(import_module(f"tornsaves.{name}"), word))[found], property)

    def test_class_method(self):
        found = vars(import_module("tornsaves.executions").Execution)["after"]
        self.assertIsInstance(found, classmethod)
        self.assertEqual(str(inspect.signature(found.__func__)), "(cls, program, plan, value, crashes)")

    def test_generators(self):
        self.assertTrue(inspect.isgeneratorfunction(import_module("tornsaves.runs").trace))
        self.assertTrue(inspect.isgeneratorfunction(import_module("tornsaves.executions").Execution.moves))


class Language(unittest.TestCase):
    def test_files(self):
        for path in PACKAGE.iterdir():
            if path.name != "__pycache__":
                self.assertRegex(path.name, r"^[a-z_]+\.py$")
                text = path.read_text()
                self.assertTrue(text.isascii())
                self.assertNotIn("\t", text)
                self.assertLess(len(text.splitlines()), 400)
                self.assertLessEqual(max(map(len, text.splitlines())), 120)

    def test_functions_are_small(self):
        for path, tree in trees():
            for node in ast.walk(tree):
                if isinstance(node, ast.FunctionDef):
                    self.assertLess(node.end_lineno - node.lineno, 40, (path, node.name))

    def test_imports(self):
        for path, tree in trees():
            for node in ast.walk(tree):
                if isinstance(node, ast.ImportFrom):
                    self.assertEqual(node.level, 0)
                    self.assertTrue(node.module.startswith("tornsaves."))
                    self.assertTrue(all(name.asname is None and name.name != "*" for name in node.names))
                    homes = [import_module(node.module).__dict__[name.name] for name in node.names]
                    for home in homes:
                        self.assertEqual(getattr(home, "__module__", node.module), node.module)

    def test_statements_and_builtins(self):
        for path, tree in trees():
            for node in ast.walk(tree):
                self.assertNotIsInstance(node, NODES if path.name != "runs.py" else tuple(set(NODES) - {ast.Mod}))
                if isinstance(node, ast.Name) and hasattr(builtins, node.id):
                    self.assertIsInstance(node.ctx, ast.Load)
                    self.assertIn(node.id, ALLOWED | {"property", "classmethod"}, path)
                if isinstance(node, (ast.arg, ast.FunctionDef)):
                    name = node.arg if isinstance(node, ast.arg) else node.name
                    self.assertTrue(name.startswith("__") or not hasattr(builtins, name), name)

    def test_names_do_not_hide_imports(self):
        for path, tree in trees():
            imported = {name.name for node in ast.walk(tree) if isinstance(node, ast.ImportFrom) for name in node.names}
            for node in ast.walk(tree):
                if isinstance(node, ast.Name) and isinstance(node.ctx, ast.Store):
                    self.assertNotIn(node.id, imported, path)
                if isinstance(node, ast.arg):
                    self.assertNotIn(node.arg, imported, path)
