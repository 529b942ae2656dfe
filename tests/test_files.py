"""What can be seen of the files themselves, and the examples of README.md."""

import ast
import doctest
import re
import unittest
from pathlib import Path

ROOT = Path(__file__).resolve().parent.parent
FILES = sorted((ROOT / "defaultswaps").glob("*.py"))
BARRED_WORDS = re.compile(
    r"\b(type|typing|typing_extensions|enum|Enum|IntEnum|StrEnum|Flag|IntFlag|Generic|Protocol|ABC|ABCMeta"
    r"|namedtuple|NamedTuple|TypedDict|TYPE_CHECKING|abstractmethod)\b|dataclass|overload|contextmanager"
)
BUILTINS_OVER_LISTS = ("any", "all", "min", "max", "sum", "sorted")


def names_bound(tree):
    for node in ast.walk(tree):
        if isinstance(node, (ast.FunctionDef, ast.ClassDef)):
            yield node.name
        elif isinstance(node, ast.arg):
            yield node.arg
        elif isinstance(node, ast.Name) and isinstance(node.ctx, ast.Store):
            yield node.id


def trees():
    return [ast.parse(file.read_text("ascii"), file.name) for file in FILES]


def is_plain(name):
    return not name.startswith("_") or (name.startswith("__") and name.endswith("__"))


class Files(unittest.TestCase):
    def test_the_folder_holds_only_python_files(self):
        found = [file for file in (ROOT / "defaultswaps").iterdir() if file.name != "__pycache__"]
        self.assertEqual(sorted(found), FILES)

    def test_characters_and_sizes(self):
        for file in FILES:
            text = file.read_text("ascii")
            self.assertTrue(all(letter == "\n" or " " <= letter <= "~" for letter in text), file)
            self.assertLess(len(text.splitlines()), 400, file)
            self.assertLessEqual(max(len(line) for line in text.splitlines()), 120, file)
            self.assertIsNone(BARRED_WORDS.search(text), file)

    def test_length_of_functions(self):
        for tree in trees():
            for node in ast.walk(tree):
                if isinstance(node, ast.FunctionDef):
                    self.assertLessEqual(node.end_lineno - node.lineno + 1, 40, node.name)

    def test_imports_come_from_the_package_and_name_the_file_that_defines(self):
        for tree in trees():
            for node in ast.walk(tree):
                self.assertNotIsInstance(node, ast.Import)
                if isinstance(node, ast.ImportFrom):
                    package, name = node.module.split(".")
                    self.assertEqual(package, "defaultswaps")
                    source = ast.parse((ROOT / package / f"{name}.py").read_text("ascii"))
                    self.assertLessEqual({alias.name for alias in node.names}, set(names_bound(source)))

    def test_names(self):
        for tree in trees():
            for name in names_bound(tree):
                self.assertTrue(is_plain(name), name)

    def test_no_generator_expressions_for_builtins(self):
        for tree in trees():
            for node in ast.walk(tree):
                if isinstance(node, ast.Call) and getattr(node.func, "id", "") in BUILTINS_OVER_LISTS:
                    self.assertNotIsInstance(node.args[0], ast.GeneratorExp)


class Readme(unittest.TestCase):
    def test_examples(self):
        failed, tried = doctest.testfile(str(ROOT / "README.md"), module_relative=False)
        self.assertEqual(failed, 0)
        self.assertGreater(tried, 10)


if __name__ == "__main__":
    unittest.main()
