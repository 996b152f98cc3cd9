"""The package's files: the interface where the document lists it, and the plainest language rules."""

import ast
import builtins
import pathlib
import re
import unittest

FOLDER = pathlib.Path(__file__).resolve().parent.parent / "fourbind"

# For each file, its functions and classes with their arguments, those by name alone behind a star; None where a
# class takes what its base takes.
INTERFACE = {
    "errors.py": {
        "BindError": None, "NoText": ["row"], "NoProgram": ["word", "at", "name"], "NoPlan": ["word", "at"],
        "NoRow": None, "NoKept": ["name"], "NoBegun": None,
    },
    "words.py": {"is_name": ["text"], "come_to": ["s", "a", "b"]},
    "trees.py": {
        "statements": ["program"], "body_at": ["program", "k"], "bodies": ["program"], "grounds": ["program"],
        "makings": ["program"],
    },
    "writer.py": {"shown": ["program"]},
    "reader.py": {"read": ["text"]},
    "looking.py": {"look": ["program"], "meant": ["program"]},
    "plain.py": {"Plain": ["program"], "plain_run": ["program", "*most"]},
    "flow.py": {
        "rows_of": ["program", "body"], "makes": ["program", "mark"], "sets": ["program", "mark"],
        "road_holds": ["program", "body", "road"],
    },
    "known.py": {"may_be_known": ["program"], "why_not": ["program", "body"]},
    "needs.py": {
        "needs": ["program", "*known"], "chain": ["program", "body", "m", "*known"],
        "chain_holds": ["program", "body", "m", "road", "*known"], "packs": ["program", "*known"],
    },
    "cells.py": {
        "copying": ["program", "m", "*known"], "least_cells": ["program", "*known"],
        "why_cell": ["program", "m", "*known"], "paper_holds": ["program", "m", "paper", "*known"],
    },
    "plans.py": {"Plan": ["*known", "*cells"], "look_plan": ["program", "plan"], "plan_of": ["program", "way"]},
    "rooms.py": {
        "shared": ["program"], "roomed": ["program"], "why_room": ["program", "ground"], "home": ["program", "m"],
        "hops": ["program", "k"],
    },
    "linked.py": {"linked": ["program"]},
    "packed.py": {"packed": ["program", "plan"]},
    "machine.py": {"Machine": ["program", "*plan"], "machine_run": ["program", "*plan", "*most"]},
    "bills.py": {"bill": ["program", "*plan"]},
    "four.py": {"Four": ["program"]},
    "desk.py": {"Desk": []},
}

# The methods that the interface lists for a class, each with its arguments.
METHODS = {
    ("plain.py", "Plain"): {
        "turn": [], "mark": [], "marks": [], "told": [], "end": [], "seen": ["m"], "whose": ["m"], "__len__": [],
    },
    ("plans.py", "Plan"): {"__eq__": ["other"], "__repr__": [], "__len__": []},
    ("machine.py", "Machine"): {
        "turn": [], "mark": [], "marks": [], "told": [], "end": [], "seen": ["m"], "costs": [], "__len__": [],
    },
    ("four.py", "Four"): {
        "turn": [], "apart": [], "mark": [], "end": [], "seen": ["way", "m"], "costs": ["way"],
    },
    ("desk.py", "Desk"): {
        "say": ["row"], "say_all": ["rows", "*quiet"], "log": [], "open_rows": [], "__len__": [],
    },
}

# L17: words that occur nowhere in a file, comments included.
BARRED = re.compile(
    r"\b(type|typing|typing_extensions|enum|Enum|IntEnum|StrEnum|Flag|IntFlag|Generic|Protocol|ABC|ABCMeta"
    r"|namedtuple|NamedTuple|TypedDict|TYPE_CHECKING|abstractmethod)\b|dataclass|overload|contextmanager"
)


def parameters(function):
    """The arguments of a function, those by name alone behind a star."""
    return [part.arg for part in function.args.args] + ["*" + part.arg for part in function.args.kwonlyargs]


def methods(node):
    """The methods that stand in a class itself, with their arguments."""
    return {part.name: parameters(part)[1:] for part in node.body if isinstance(part, ast.FunctionDef)}


def arguments(node):
    """The arguments of a function, or those that a class is made with."""
    if isinstance(node, ast.FunctionDef):
        return parameters(node)
    return methods(node).get("__init__")


def bound_names(node):
    """The parameters and local variables of a function."""
    found = parameters(node)
    found += [part.id for part in ast.walk(node) if isinstance(part, ast.Name) and isinstance(part.ctx, ast.Store)]
    return {name.lstrip("*") for name in found}


class Layout(unittest.TestCase):
    def files(self):
        found = sorted(FOLDER.glob("*.py"))
        self.assertIn(FOLDER / "__init__.py", found)
        return [(path.name, path.read_bytes().decode("ascii")) for path in found]

    def test_interface_is_defined_in_its_files(self):
        texts = dict(self.files())
        for name, wanted in INTERFACE.items():
            body = ast.parse(texts[name]).body
            defined = {node.name: arguments(node) for node in body if isinstance(node, (ast.FunctionDef, ast.ClassDef))}
            for thing, args in wanted.items():
                self.assertIn(thing, defined)
                self.assertEqual(defined[thing], args, thing)

    def test_methods_stand_in_their_classes(self):
        texts = dict(self.files())
        for (name, wanted), listed in METHODS.items():
            node = next(part for part in ast.parse(texts[name]).body if getattr(part, "name", "") == wanted)
            for method, args in listed.items():
                self.assertEqual(methods(node).get(method), args, (wanted, method))

    def test_no_method_is_an_attribute_elsewhere(self):
        """L18, of the whole package."""
        called, stored, read = set(), set(), set()
        for name, text in self.files():
            for node in ast.walk(ast.parse(text)):
                if isinstance(node, ast.ClassDef):
                    called |= set(methods(node))
                if isinstance(node, ast.Attribute):
                    (stored if isinstance(node.ctx, ast.Store) else read).add(node.attr)
        self.assertEqual(called & stored, set())
        builtin = {method for kind in (str, list, dict, tuple, int) for method in dir(kind)}
        self.assertEqual(read - called - stored - builtin, set())

    def test_names_are_free(self):
        """L12, L15: none begins with an underscore, is a builtin's, a class's or an import's of its file."""
        for name, text in self.files():
            tree = ast.parse(text)
            taken = set(dir(builtins)) | {node.name for node in tree.body if isinstance(node, ast.ClassDef)}
            for node in tree.body:
                if isinstance(node, ast.ImportFrom):
                    taken |= {part.name for part in node.names}
            for node in ast.walk(tree):
                if isinstance(node, ast.FunctionDef):
                    self.assertEqual(bound_names(node) & taken, set(), (name, node.name))
                    self.assertFalse([word for word in bound_names(node) if word.startswith("_")], (name, node.name))

    def test_lists_where_generators_are_barred(self):
        """L7: once a class has an `__eq__`, any, all, sum and the like take lists; so they do from the start."""
        for name, text in self.files():
            self.assertFalse([node for node in ast.walk(ast.parse(text)) if isinstance(node, ast.GeneratorExp)], name)

    def test_what_is_iterated_at_once_is_not_stored(self):
        """L23."""
        barred = ("range", "zip", "enumerate", "reversed", "items", "keys", "values")
        for name, text in self.files():
            for node in ast.walk(ast.parse(text)):
                if isinstance(node, (ast.Assign, ast.Return)) and isinstance(node.value, ast.Call):
                    called = node.value.func
                    word = called.id if isinstance(called, ast.Name) else getattr(called, "attr", "")
                    self.assertNotIn(word, barred, (name, node.lineno))

    def test_folder_has_python_files_alone(self):
        others = [path.name for path in FOLDER.iterdir() if path.suffix != ".py" and path.name != "__pycache__"]
        self.assertEqual(others, [])

    def test_sizes_and_signs(self):
        for name, text in self.files():
            rows = text.split("\n")
            self.assertLess(len(rows), 400, name)
            for row in rows:
                self.assertLessEqual(len(row), 120, name)
                self.assertTrue(all(" " <= sign <= "~" for sign in row), (name, row))
            self.assertIsNone(BARRED.search(text), name)
            for node in ast.walk(ast.parse(text)):
                if isinstance(node, ast.FunctionDef):
                    self.assertLessEqual(node.end_lineno - node.lineno + 1, 40, (name, node.name))

    def test_imports_are_of_the_package(self):
        for name, text in self.files():
            for node in ast.walk(ast.parse(text)):
                self.assertNotIsInstance(node, ast.Import, name)
                if isinstance(node, ast.ImportFrom):
                    self.assertTrue(node.level == 0 and node.module.startswith("fourbind."), (name, node.module))

    def test_imports_are_from_the_files_that_define_them_and_never_in_a_round(self):
        """L16."""
        defined, wanted = {}, {}
        for name, text in self.files():
            module = "fourbind." + name[:-3]
            body = ast.parse(text).body
            defined[module] = {node.name for node in body if isinstance(node, (ast.FunctionDef, ast.ClassDef))}
            defined[module] |= {part.id for node in body if isinstance(node, ast.Assign) for part in node.targets}
            wanted[module] = [node for node in body if isinstance(node, ast.ImportFrom)]
        for module, nodes in wanted.items():
            for node in nodes:
                self.assertLessEqual({part.name for part in node.names}, defined[node.module], (module, node.module))
        left = {module: {node.module for node in nodes} for module, nodes in wanted.items()}
        while left:
            free = [module for module in left if not left[module] & set(left)]
            self.assertTrue(free, left)
            for module in free:
                del left[module]


if __name__ == "__main__":
    unittest.main()
