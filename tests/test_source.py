"""What promise 1 and the interface say of the sources: no outside help, and each name in its own file."""

import ast
import pathlib
import unittest

PACKAGE = pathlib.Path(__file__).resolve().parent.parent / "timeheld"

DEFINED = {
    "errors.py": (
        "TimeError", "BadZone", "BadInstant", "BadReading", "BadLibrary", "BadTime", "BadDuration", "BadRule",
        "BadArguments", "BadKind", "BadRules", "NotText", "InvalidText", "NotNow", "NothingToUndo",
    ),
    "zones.py": ("is_zone", "offset_at", "kind_of", "instants_of"),
    "libraries.py": ("is_library", "is_time", "all_libraries", "to_instant", "from_instant", "read"),
    "sums.py": ("add", "subtract", "compare"),
    "rules.py": ("rules", "shape", "holds_for"),
    "decisions.py": ("holds", "counterexample"),
    "profiles.py": ("profile", "libraries_with", "most_rules", "implies", "parting"),
    "texts.py": ("write_zone", "read_zone"),
    "desks.py": ("Desk",),
}

OUTSIDE = ("open", "print", "input", "eval", "exec", "compile", "globals", "locals", "vars", "float", "hash", "id")


def trees():
    return {path.name: ast.parse(path.read_text("ascii")) for path in sorted(PACKAGE.glob("*.py"))}


class TestSource(unittest.TestCase):
    def test_interface_is_defined_in_its_files(self):
        found = trees()
        for name, defined in DEFINED.items():
            here = [node.name for node in found[name].body if isinstance(node, (ast.FunctionDef, ast.ClassDef))]
            self.assertEqual([name for name in defined if name not in here], [])

    def test_methods_of_the_desk_are_defined_in_its_class(self):
        desk = next(node for node in trees()["desks.py"].body if isinstance(node, ast.ClassDef) and node.name == "Desk")
        here = [node.name for node in desk.body if isinstance(node, ast.FunctionDef)]
        self.assertEqual([name for name in ("__init__", "run", "undo", "time") if here.count(name) != 1], [])
        time = next(node for node in desk.body if isinstance(node, ast.FunctionDef) and node.name == "time")
        self.assertEqual([decorator.id for decorator in time.decorator_list], ["property"])

    def test_imports_come_from_the_package_only(self):
        for name, tree in trees().items():
            for node in ast.walk(tree):
                self.assertNotIsInstance(node, ast.Import, name)
                if isinstance(node, ast.ImportFrom):
                    self.assertEqual((node.level, node.module.split(".")[0]), (0, "timeheld"), name)

    def test_nothing_reaches_outside(self):
        for name, tree in trees().items():
            used = [node.id for node in ast.walk(tree) if isinstance(node, ast.Name)]
            self.assertEqual([word for word in used if word in OUTSIDE], [], name)

    def test_package_holds_only_plain_sources(self):
        held = [path.name for path in PACKAGE.iterdir() if path.name != "__pycache__"]
        self.assertEqual([name for name in held if not name.endswith(".py")], [])

    def test_sizes(self):
        for path in PACKAGE.glob("*.py"):
            lines = path.read_text("ascii").splitlines()
            self.assertLess(len(lines), 400, path.name)
            self.assertEqual([line for line in lines if len(line) > 120 or "\t" in line], [], path.name)
        for name, tree in trees().items():
            functions = [node for node in ast.walk(tree) if isinstance(node, ast.FunctionDef)]
            self.assertEqual([f.name for f in functions if f.end_lineno - f.lineno > 39], [], name)
