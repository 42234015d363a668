"""The names, arguments and places of the interface, and the outer form of the files."""

import ast
import importlib
import inspect
import unittest
from pathlib import Path

PACKAGE = Path(__file__).resolve().parent.parent / "wantedwork"

FUNCTIONS = {
    "wantedwork.language": {
        "format_expression": "(expression)",
        "parse_expression": "(text)",
        "format_program": "(program)",
        "parse_program": "(text)",
    },
    "wantedwork.wanting": {
        "wanted": "(hub)",
        "paused": "(hub)",
        "is_wanted": "(hub, key)",
        "users_of": "(hub, key)",
        "chain": "(hub, key)",
        "is_chain": "(hub, key, value)",
        "is_cut": "(hub, value)",
    },
    "wantedwork.urging": {
        "urgency": "(hub, key)",
        "urgency_chain": "(hub, key)",
        "are_bounds": "(hub, value)",
    },
    "wantedwork.stopping": {
        "stuck": "(hub)",
        "is_stuck_set": "(hub, value)",
        "ring": "(hub)",
    },
    "wantedwork.directly": {
        "outcome_of": "(program, plan, *arguments)",
        "needed": "(program, plan, *arguments)",
    },
    "wantedwork.logs": {
        "replayed": "(program, log, *, patience=10)",
        "rehearsed": "(hub, deeds)",
        "journal": "(hub)",
        "recovered": "(program, text, *, patience=10)",
    },
    "wantedwork.accounts": {
        "account": "(hub)",
        "is_account": "(value, patience)",
        "shares_of": "(value, patience)",
    },
}
CLASSES = {
    ("wantedwork.plans", "Plan"): {
        "__init__": "(self, arguments, body, result, *, must_finish=False)",
        "arguments": None, "body": None, "result": None, "must_finish": None, "is_determinate": None, "__eq__": "",
    },
    ("wantedwork.plans", "Program"): {
        "__init__": "(self, plans)", "names": None, "is_determinate": None, "__getitem__": "", "__or__": "", "__eq__": "",
        "__len__": "",
    },
    ("wantedwork.hubs", "Hub"): {
        "__init__": "(self, program, *, patience=10)",
        "program": None, "patience": None, "clock": None, "tasks": None, "users": None, "effects": None, "cost": None,
        "shares": None, "log": None, "__len__": "", "__contains__": "", "__eq__": "",
        "ask": "(self, user, plan, *arguments, urgency=0)",
        "drop": "(self, user, key)",
        "pass_on": "(self, user, other, key)",
        "handles": "(self, user)",
        "state": "(self, key)",
        "result_of": "(self, key)",
        "reason_of": "(self, key)",
        "holds": "(self, key)",
        "steps": "(self, key)",
        "work_of": "(self, key)",
        "rest": "(self, key)",
        "tick": "(self, policy='oldest')",
        "ticks": "(self, policy='oldest')",
        "run": "(self, most, policy='oldest')",
        "pick": "(self, key)",
        "trial": "(self)",
        "copy": "(self)",
    },
    ("wantedwork.crews", "Crew"): {
        "__init__": "(self, hub, workers, *, time=20)",
        "hub": None, "__len__": "",
        "leases": "(self)",
        "begin": "(self, worker, policy='oldest')",
        "finish": "(self, worker)",
        "crash": "(self, worker)",
    },
    ("wantedwork.console", "Console"): {
        "__init__": "(self, program, *, patience=10)",
        "hub_copy": "(self)",
        "execute": "(self, line)",
    },
}


class InterfaceTest(unittest.TestCase):
    def test_functions(self):
        for module, functions in FUNCTIONS.items():
            for name, signature in functions.items():
                function = getattr(importlib.import_module(module), name)
                self.assertEqual((function.__module__, str(inspect.signature(function))), (module, signature), name)

    def test_classes(self):
        for (module, name), members in CLASSES.items():
            kind = getattr(importlib.import_module(module), name)
            self.assertEqual(kind.__module__, module)
            for member, signature in members.items():
                self.assertIn(member, vars(kind))
                if signature is None:
                    self.assertIsInstance(vars(kind)[member], property)
                elif signature != "":
                    self.assertEqual(str(inspect.signature(vars(kind)[member])), signature, member)

    def test_ticks_yields(self):
        self.assertTrue(inspect.isgeneratorfunction(importlib.import_module("wantedwork.hubs").Hub.ticks))


class FilesTest(unittest.TestCase):
    def files(self):
        files = [path for path in PACKAGE.rglob("*") if path.is_file() and "__pycache__" not in path.parts]
        self.assertTrue(all(path.suffix == ".py" for path in files))
        return files

    def test_sizes_and_characters(self):
        for path in self.files():
            text = path.read_text(encoding="utf-8")
            self.assertTrue(all(character == "\n" or " " <= character <= "~" for character in text), path)
            lines = text.split("\n")
            self.assertLessEqual(len(lines), 400, path)
            self.assertLessEqual(max(len(line) for line in lines), 120, path)
            for node in ast.walk(ast.parse(text)):
                if isinstance(node, ast.FunctionDef):
                    self.assertLessEqual(node.end_lineno - node.lineno + 1, 40, (path, node.name))

    def test_imports(self):
        for path in self.files():
            for node in ast.walk(ast.parse(path.read_text(encoding="utf-8"))):
                self.assertNotIsInstance(node, ast.Import, path)
                if isinstance(node, ast.ImportFrom) and node.module != "math":
                    self.assertEqual(node.module.split(".")[0], "wantedwork", path)
                    module = importlib.import_module(node.module)
                    for name in node.names:
                        thing = getattr(module, name.name)
                        self.assertEqual(getattr(thing, "__module__", node.module), node.module, (path, name.name))


if __name__ == "__main__":
    unittest.main()
