"""The package's files: the interface where the document lists it, and the plainest language rules."""

import ast
import pathlib
import re
import unittest

FOLDER = pathlib.Path(__file__).resolve().parent.parent / "fourbind"

# For each file, its functions and classes with their arguments; None where a class takes what its base takes.
INTERFACE = {
    "errors.py": {
        "BindError": None, "NoText": ["row"], "NoProgram": ["word", "at", "name"], "NoPlan": ["word", "at"],
        "NoRow": None, "NoKept": ["name"], "NoBegun": None,
    },
    "words.py": {"is_name": ["text"], "come_to": ["s", "a", "b"]},
    "trees.py": {
        "statements": ["program"], "body_at": ["program", "k"], "bodies": ["program"], "grounds": ["program"],
        "makings": ["program"],
    },
}

# L17: words that occur nowhere in a file, comments included.
BARRED = re.compile(
    r"\b(type|typing|typing_extensions|enum|Enum|IntEnum|StrEnum|Flag|IntFlag|Generic|Protocol|ABC|ABCMeta"
    r"|namedtuple|NamedTuple|TypedDict|TYPE_CHECKING|abstractmethod)\b|dataclass|overload|contextmanager"
)


def arguments(node):
    """The arguments of a function, or those that a class is made with."""
    if isinstance(node, ast.FunctionDef):
        return [part.arg for part in node.args.args]
    for part in node.body:
        if isinstance(part, ast.FunctionDef) and part.name == "__init__":
            return [inner.arg for inner in part.args.args[1:]]
    return None


class Layout(unittest.TestCase):
    def files(self):
        found = sorted(FOLDER.glob("*.py"))
        self.assertIn(FOLDER / "__init__.py", found)
        return [(path.name, path.read_bytes().decode("ascii")) for path in found]

    def test_interface_is_defined_in_its_files(self):
        texts = dict(self.files())
        for name, wanted in INTERFACE.items():
            body = ast.parse(texts[name]).body
            defined = {node.name: arguments(node) for node in body if isinstance(node, (ast.FunctionDef, ast.ClassDef))}
            for thing, args in wanted.items():
                self.assertIn(thing, defined)
                self.assertEqual(defined[thing], args, thing)

    def test_folder_has_python_files_alone(self):
        others = [path.name for path in FOLDER.iterdir() if path.suffix != ".py" and path.name != "__pycache__"]
        self.assertEqual(others, [])

    def test_sizes_and_signs(self):
        for name, text in self.files():
            rows = text.split("\n")
            self.assertLess(len(rows), 400, name)
            for row in rows:
                self.assertLessEqual(len(row), 120, name)
                self.assertTrue(all(" " <= sign <= "~" for sign in row), (name, row))
            self.assertIsNone(BARRED.search(text), name)
            for node in ast.walk(ast.parse(text)):
                if isinstance(node, ast.FunctionDef):
                    self.assertLessEqual(node.end_lineno - node.lineno + 1, 40, (name, node.name))

    def test_imports_are_of_the_package(self):
        for name, text in self.files():
            for node in ast.walk(ast.parse(text)):
                self.assertNotIsInstance(node, ast.Import, name)
                if isinstance(node, ast.ImportFrom):
                    self.assertTrue(node.level == 0 and node.module.startswith("fourbind."), (name, node.module))


if __name__ == "__main__":
    unittest.main()
