"""What can be seen of the files themselves, and the examples of README.md."""

import ast
import builtins
import doctest
import re
import unittest
from pathlib import Path

ROOT = Path(__file__).resolve().parent.parent
FILES = sorted((ROOT / "defaultswaps").glob("*.py"))
BARRED_WORDS = re.compile(
    r"\b(type|typing|typing_extensions|enum|Enum|IntEnum|StrEnum|Flag|IntFlag|Generic|Protocol|ABC|ABCMeta"
    r"|namedtuple|NamedTuple|TypedDict|TYPE_CHECKING|abstractmethod)\b|dataclass|overload|contextmanager"
)
BUILTINS_OVER_LISTS = ("any", "all", "min", "max", "sum", "sorted")
# What the interface lists under each file.
LISTED = {
    "errors": (
        "SwapError AtomsError BookError RuleError SetError SetsError TableError MatchError TextError AtomError"
        " NumberError NothingError LimitError"
    ),
    "rules": "is_rulebook is_rule remaining violated least",
    "settled": "settled is_settled reason shows rules_settling",
    "pairs": "pairs fits is_table rules_of tables",
    "swaps": "compare shows_compare apart",
    "facts": "kernel compare_by_facts shows_by_facts settled_with",
    "tidy": "counter needless tidy is_tidy",
    "texts": "book_text read_book",
    "objects": "Rules Facts Round Choice Start",
    "desk": "Desk",
}
SPECIAL_METHODS = {
    "__init__": "self", "__len__": "self", "__repr__": "self", "__enter__": "self", "__iter__": "self",
    "__eq__": "self other", "__or__": "self other", "__sub__": "self other", "__contains__": "self x",
    "__getitem__": "self at", "__call__": "self chosen", "__exit__": "self kind value trace",
}


def names_bound(tree):
    for node in ast.walk(tree):
        if isinstance(node, (ast.FunctionDef, ast.ClassDef)):
            yield node.name
        elif isinstance(node, ast.arg):
            yield node.arg
        elif isinstance(node, ast.Name) and isinstance(node.ctx, ast.Store):
            yield node.id


def trees():
    return [ast.parse(file.read_text("ascii"), file.name) for file in FILES]


def starts_outside_the_bases(node, bases=None):
    """The rows where `__init__` is read off anything but super() or a base that the class statement around names."""
    if isinstance(node, ast.ClassDef):
        bases = [base.id for base in node.bases if isinstance(base, ast.Name)]
    if isinstance(node, ast.Call) and isinstance(node.func, ast.Attribute) and node.func.attr == "__init__":
        parts = node.args + node.keywords
        if not is_start_of_a_base(node, bases or []):
            parts = [node.func, *parts]
    else:
        parts = ast.iter_child_nodes(node)
    found = [node.lineno] if isinstance(node, ast.Attribute) and node.attr == "__init__" else []
    return found + [row for part in parts for row in starts_outside_the_bases(part, bases)]


def is_start_of_a_base(call, bases):
    if ast.unparse(call.func.value) == "super()":
        return True
    own_object_first = len(call.args) > 0 and ast.unparse(call.args[0]) == "self"
    return ast.unparse(call.func.value) in bases and own_object_first


def is_plain(name):
    return not name.startswith("_") or (name.startswith("__") and name.endswith("__"))


class Files(unittest.TestCase):
    def test_the_folder_holds_only_python_files(self):
        found = [file for file in (ROOT / "defaultswaps").iterdir() if file.name != "__pycache__"]
        self.assertEqual(sorted(found), FILES)

    def test_characters_and_sizes(self):
        for file in FILES:
            text = file.read_text("ascii")
            self.assertTrue(all(letter == "\n" or " " <= letter <= "~" for letter in text), file)
            self.assertLess(len(text.splitlines()), 400, file)
            self.assertLessEqual(max(len(line) for line in text.splitlines()), 120, file)
            self.assertIsNone(BARRED_WORDS.search(text), file)

    def test_length_of_functions(self):
        for tree in trees():
            for node in ast.walk(tree):
                if isinstance(node, ast.FunctionDef):
                    self.assertLessEqual(node.end_lineno - node.lineno + 1, 40, node.name)

    def test_imports_come_from_the_package_and_name_the_file_that_defines(self):
        for tree in trees():
            for node in ast.walk(tree):
                self.assertNotIsInstance(node, ast.Import)
                if isinstance(node, ast.ImportFrom):
                    package, name = node.module.split(".")
                    self.assertEqual(package, "defaultswaps")
                    source = ast.parse((ROOT / package / f"{name}.py").read_text("ascii"))
                    self.assertLessEqual({alias.name for alias in node.names}, set(names_bound(source)))

    def test_names(self):
        for tree in trees():
            for name in names_bound(tree):
                self.assertTrue(is_plain(name), name)

    def test_no_generator_expressions_for_builtins(self):
        for tree in trees():
            for node in ast.walk(tree):
                if isinstance(node, ast.Call) and getattr(node.func, "id", "") in BUILTINS_OVER_LISTS:
                    self.assertNotIsInstance(node.args[0], ast.GeneratorExp)


class Classes(unittest.TestCase):
    def classes(self):
        return [node for tree in trees() for node in ast.walk(tree) if isinstance(node, ast.ClassDef)]

    def methods(self, *decorators):
        """The functions of all classes whose decorator is one of these; None stands for no decorator."""
        return [
            node for found in self.classes() for node in found.body if isinstance(node, ast.FunctionDef)
            and (ast.unparse(node.decorator_list[0]) if node.decorator_list else None) in decorators
        ]

    def stored(self):
        return {
            node.attr for tree in trees() for node in ast.walk(tree)
            if isinstance(node, ast.Attribute) and isinstance(node.ctx, ast.Store)
        }

    def test_what_the_interface_lists_is_defined_in_its_file(self):
        self.assertEqual({file.stem for file in FILES}, {"__init__", *LISTED})
        for name, listed in LISTED.items():
            tree = ast.parse((ROOT / "defaultswaps" / f"{name}.py").read_text("ascii"))
            defined = {node.name for node in tree.body if isinstance(node, (ast.FunctionDef, ast.ClassDef))}
            self.assertLessEqual(set(listed.split()), defined)

    def test_special_methods(self):
        for node in self.methods(None):
            if node.name.startswith("__") and node.name != "__init__":
                names = " ".join(argument.arg for argument in node.args.args)
                self.assertEqual(names, SPECIAL_METHODS[node.name])

    def test_no_name_is_used_for_two_things(self):
        plain = {node.name for node in self.methods(None)}
        others = {node.name for node in self.methods("staticmethod", "classmethod")}
        properties = {node.name for node in self.methods("property")}
        values = {"MOST"}
        groups = [plain, others, properties, values, self.stored() - {"book"}]
        for at, one in enumerate(groups):
            for other in groups[:at]:
                self.assertEqual(one & other, set())
        self.assertEqual(plain | others | properties, {node.name for node in self.methods(
            None, "staticmethod", "classmethod", "property", "book.setter")})

    def test_the_start_of_a_base_is_that_of_super_or_of_a_base_named_by_the_class(self):
        for file, tree in zip(FILES, trees()):
            self.assertEqual(starts_outside_the_bases(tree), [], file)

    def test_the_start_of_a_base_in_other_rows(self):
        """What the test above is made of sees the rows that it is there for."""
        for head, row, allowed in (
            ("C(A, B)", "A.__init__(self, k)", True), ("C(A, B)", "B.__init__(self, *ks)", True),
            ("C(A)", "super().__init__(k)", True), ("C", "super().__init__()", True),
            ("C(A, B)", "Top.__init__(self, k)", False), ("C(A)", "C.__init__(self, k)", False),
            ("C", "A.__init__(self)", False), ("C(A)", "self.__init__(k)", False),
            ("C(A)", "A.__init__(k, self)", False), ("C(A)", "A.__init__()", False),
            ("C(A)", "k.A.__init__(self)", False), ("C(A)", "start = A.__init__", False),
            ("C(A)", "A.__init__(self, Top.__init__(self))", False),
            ("C(A)", "A.__init__(self, k=Top.__init__)", False),
        ):
            tree = ast.parse(f"class {head}:\n    def __init__(self, k, *ks):\n        {row}\n")
            self.assertEqual(starts_outside_the_bases(tree), [] if allowed else [3], row)
        self.assertEqual(starts_outside_the_bases(ast.parse("class C(A):\n    K = 1\nA.__init__(self)\n")), [3])
        beside = "class B(A):\n    K = 1\nclass C(B):\n    def __init__(self):\n        A.__init__(self)\n"
        self.assertEqual(starts_outside_the_bases(ast.parse(beside)), [5])

    def test_the_end_of_a_block_only_puts_back(self):
        found = [node for node in self.methods(None) if node.name == "__exit__"]
        self.assertEqual(len(found), 1)
        for row in found[0].body:
            self.assertIsInstance(row, ast.Assign)
            self.assertIsInstance(row.targets[0], ast.Attribute)
            self.assertIsInstance(row.value, ast.Attribute)

    def test_what_is_read_changes_nothing(self):
        reading = self.methods("property") + [
            node for node in self.methods(None)
            if node.name in SPECIAL_METHODS and node.name not in ("__init__", "__enter__", "__exit__", "__call__")
        ]
        for method in reading:
            for node in ast.walk(method):
                self.assertNotIsInstance(node, (ast.AugAssign, ast.Delete))
                if isinstance(node, (ast.Attribute, ast.Subscript)):
                    self.assertIsInstance(node.ctx, ast.Load)

    def test_no_name_of_a_builtin(self):
        for tree in trees():
            methods = [node.name for found in ast.walk(tree) if isinstance(found, ast.ClassDef) for node in found.body
                       if isinstance(node, ast.FunctionDef)]
            for name in names_bound(tree):
                self.assertTrue(name in methods or not hasattr(builtins, name), name)

    def test_no_name_of_a_class_or_an_import_for_another_thing(self):
        for tree in trees():
            taken = {node.name for node in tree.body if isinstance(node, ast.ClassDef)}
            taken |= {alias.name for node in tree.body if isinstance(node, ast.ImportFrom) for alias in node.names}
            for node in ast.walk(tree):
                if isinstance(node, ast.arg):
                    self.assertNotIn(node.arg, taken)
                elif isinstance(node, ast.Name) and isinstance(node.ctx, ast.Store):
                    self.assertNotIn(node.id, taken)

    def test_behind_a_star_in_a_call_stands_a_name(self):
        for tree in trees():
            for node in ast.walk(tree):
                if isinstance(node, ast.Call):
                    for argument in node.args:
                        if isinstance(argument, ast.Starred):
                            self.assertIsInstance(argument.value, ast.Name)


class Readme(unittest.TestCase):
    def test_examples(self):
        failed, tried = doctest.testfile(str(ROOT / "README.md"), module_relative=False)
        self.assertEqual(failed, 0)
        self.assertGreater(tried, 10)


if __name__ == "__main__":
    unittest.main()
