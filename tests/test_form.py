"""The form of the package's files, as far as it can be read off them plainly (LANGUAGE.md)."""

import ast
import builtins
import pathlib
import re
import unittest

PACKAGE = pathlib.Path(__file__).resolve().parent.parent / "mapwright"
OWN_NAMES = """
len range enumerate zip min max sum abs sorted reversed int str bool list tuple dict set frozenset isinstance ord
repr any all divmod Exception ValueError TypeError KeyError IndexError LookupError ZeroDivisionError ArithmeticError
OverflowError RuntimeError NotImplementedError AttributeError StopIteration
""".split()
FORBIDDEN_NODES = """
With Match Delete Global Nonlocal Assert Yield YieldFrom Await AsyncFunctionDef AsyncFor AsyncWith SetComp DictComp
GeneratorExp NamedExpr Starred Div AnnAssign Import MatMult TryStar
""".split()
FORBIDDEN_WORDS = """
type typing typing_extensions enum Enum IntEnum StrEnum Flag IntFlag Generic Protocol ABC ABCMeta namedtuple
NamedTuple TypedDict TYPE_CHECKING abstractmethod
""".split()
FORBIDDEN_ANYWHERE = ("dataclass", "overload", "contextmanager")
METHODS = """
append clear copy count endswith extend find get index insert isalnum isalpha isdigit islower isspace isupper items join
keys ljust lower lstrip partition pop remove replace reverse rfind rjust rpartition rsplit rstrip setdefault split
splitlines startswith strip update upper values zfill bit_length
""".split()
WALKS = ("zip", "enumerate", "reversed", "range")
WALK_METHODS = ("items", "keys", "values")
WALKERS = ("list", "tuple", "dict", "sorted", "sum", "any", "all", "enumerate", "zip", "min", "max")
CHANGES = ("append", "clear", "extend", "insert", "pop", "remove", "reverse", "setdefault", "update")
KEYWORDS = {
    "sorted": ("key", "reverse"), "min": ("key", "default"), "max": ("key", "default"), "sum": ("start",),
    "enumerate": ("start",), "zip": ("strict",),
}
KEYS = ["len", "int", "str", "abs", "sum", "min", "max", "tuple"]
SPECIAL_METHODS = ("__init__", "__eq__", "__repr__", "__str__", "__len__")


def bound_names(node):
    """The names that a node of the tree binds."""
    if isinstance(node, (ast.FunctionDef, ast.ClassDef)):
        return [node.name]
    if isinstance(node, ast.arg):
        return [node.arg]
    if isinstance(node, ast.Name) and isinstance(node.ctx, ast.Store):
        return [node.id]
    return []


def called(node):
    """The plain name that a node of the tree calls, or None."""
    if isinstance(node, ast.Call) and isinstance(node.func, ast.Name):
        return node.func.id
    return None


def is_walk(node):
    """Whether a node makes what is walked at once."""
    if isinstance(node, ast.Call) and isinstance(node.func, ast.Attribute):
        return node.func.attr in WALK_METHODS
    return called(node) in WALKS


def walked_names(node):
    """The plain names that a loop walks, itself or through what is walked at once."""
    if isinstance(node, ast.Name):
        return [node.id]
    if called(node) in WALKS:
        return [name for inner in node.args for name in walked_names(inner)]
    if is_walk(node):
        return walked_names(node.func.value)
    return []


def changed_names(node):
    """The plain names of what a node of the tree changes in place."""
    found = []
    if isinstance(node, ast.Call) and isinstance(node.func, ast.Attribute) and node.func.attr in CHANGES:
        found.append(node.func.value)
    if isinstance(node, ast.Subscript) and isinstance(node.ctx, ast.Store):
        found.append(node.value)
    return [inner.id for inner in found if isinstance(inner, ast.Name)]


class Form(unittest.TestCase):
    def setUp(self):
        self.files = sorted(PACKAGE.glob("*.py"))
        self.texts = {file: file.read_text(encoding="utf-8") for file in self.files}
        self.trees = {file: ast.parse(text) for file, text in self.texts.items()}

    def nodes(self):
        for file, tree in self.trees.items():
            for node in ast.walk(tree):
                yield f"{file.name}:{getattr(node, 'lineno', 0)}", node

    def test_only_plain_files_lie_in_the_package(self):
        self.assertIn(PACKAGE / "__init__.py", self.files)
        for path in PACKAGE.iterdir():
            if path.name != "__pycache__":
                self.assertRegex(path.name, r"^[a-z0-9_]+\.py$")

    def test_signs_and_sizes(self):
        for file, text in self.texts.items():
            rows = text.split("\n")
            self.assertLessEqual(len(rows), 401, file.name)
            for number, row in enumerate(rows, start=1):
                self.assertRegex(row, r"^[ -~]{0,120}$", f"{file.name}:{number}")

    def test_functions_have_at_most_forty_lines(self):
        for place, node in self.nodes():
            if isinstance(node, ast.FunctionDef):
                self.assertLessEqual(node.end_lineno - node.lineno + 1, 40, place)
                self.assertEqual(node.decorator_list, [], place)

    def test_words_that_stand_nowhere(self):
        for file, text in self.texts.items():
            self.assertEqual([word for word in re.findall(r"\w+", text) if word in FORBIDDEN_WORDS], [], file.name)
            self.assertEqual([word for word in FORBIDDEN_ANYWHERE if word in text], [], file.name)

    def test_statements_and_expressions(self):
        for place, node in self.nodes():
            self.assertNotIn(node.__class__.__name__, FORBIDDEN_NODES, place)
            if isinstance(node, ast.Assign):
                self.assertEqual(len(node.targets), 1, place)
            if isinstance(node, ast.ListComp):
                self.assertEqual(len(node.generators), 1, place)
                self.assertLessEqual(len(node.generators[0].ifs), 1, place)
            if isinstance(node, (ast.For, ast.While)):
                self.assertEqual(node.orelse, [], place)
            if isinstance(node, ast.Constant):
                self.assertNotIsInstance(node.value, (float, bytes, complex), place)

    def test_names(self):
        for place, node in self.nodes():
            for name in bound_names(node):
                if name not in SPECIAL_METHODS:
                    self.assertRegex(name, r"^[A-Za-z][A-Za-z0-9_]*$", place)
                    self.assertNotIn(name, dir(builtins), place)
            if isinstance(node, ast.Name) and node.id in dir(builtins):
                self.assertIn(node.id, OWN_NAMES, place)

    def test_locals_are_not_called_like_imports_or_classes(self):
        for file, tree in self.trees.items():
            taken = [alias.name for node in ast.walk(tree) if isinstance(node, ast.ImportFrom) for alias in node.names]
            taken.extend([node.name for node in tree.body if isinstance(node, ast.ClassDef)])
            for top in ast.walk(tree):
                if isinstance(top, (ast.FunctionDef, ast.Lambda)):
                    for node in ast.walk(top):
                        for name in bound_names(node):
                            self.assertNotIn(name, taken, f"{file.name}:{node.lineno}")

    def test_methods_and_values(self):
        classes = [node for place, node in self.nodes() if isinstance(node, ast.ClassDef)]
        methods = [node.name for top in classes for node in top.body if isinstance(node, ast.FunctionDef)]
        attributes = [(place, node) for place, node in self.nodes() if isinstance(node, ast.Attribute)]
        values = [node.attr for place, node in attributes if isinstance(node.ctx, ast.Store)]
        self.assertEqual([name for name in methods if name in values], [])
        for place, node in attributes:
            self.assertIn(node.attr, METHODS + methods + values, place)

    def test_what_is_walked_at_once_is_not_kept(self):
        for file, tree in self.trees.items():
            walked = []
            for node in ast.walk(tree):
                if isinstance(node, (ast.For, ast.comprehension)):
                    walked.append(node.iter)
                if called(node) in WALKERS:
                    walked.extend(node.args[:1])
                if isinstance(node, ast.Call) and isinstance(node.func, ast.Attribute) and node.func.attr == "join":
                    walked.extend(node.args[:1])
            for node in ast.walk(tree):
                if is_walk(node):
                    self.assertIn(node, walked, f"{file.name}:{node.lineno}")

    def test_what_a_loop_walks_is_not_changed_in_it(self):
        for place, node in self.nodes():
            if isinstance(node, ast.For):
                walked = walked_names(node.iter)
                for row in node.body:
                    for inner in ast.walk(row):
                        for name in changed_names(inner):
                            self.assertNotIn(name, walked, place)

    def test_is_stands_beside_none_true_and_false_alone(self):
        for place, node in self.nodes():
            if isinstance(node, ast.Compare) and isinstance(node.ops[0], (ast.Is, ast.IsNot)):
                self.assertIsInstance(node.comparators[0], ast.Constant, place)
                self.assertIn(node.comparators[0].value, (None, True, False), place)

    def test_keywords(self):
        for place, node in self.nodes():
            if isinstance(node, ast.Call):
                words = [keyword.arg for keyword in node.keywords]
                allowed = KEYWORDS.get(called(node), ())
                if called(node) is None or called(node) in OWN_NAMES:
                    self.assertEqual([word for word in words if word not in allowed], [], place)

    def test_numbers_and_texts(self):
        for place, node in self.nodes():
            if isinstance(node, ast.Constant) and isinstance(node.value, str):
                self.assertNotIn("%", node.value, place)
            if isinstance(node, ast.BinOp) and isinstance(node.op, ast.Pow):
                self.assertIsInstance(node.right, ast.Constant, place)
            self.assertNotEqual(called(node), "chr", place)

    def test_sets_are_not_kept(self):
        for file, tree in self.trees.items():
            right = []
            for node in ast.walk(tree):
                if isinstance(node, ast.Compare):
                    right.extend([node.left] + node.comparators)
                if called(node) in ("sorted", "len"):
                    right.extend(node.args)
            for node in right:
                if isinstance(node, ast.BinOp):
                    right.extend([node.left, node.right])
            for node in ast.walk(tree):
                if called(node) == "set":
                    self.assertIn(node, right, f"{file.name}:{node.lineno}")

    def test_imports_are_of_the_very_file_that_defines_the_name(self):
        for place, node in self.nodes():
            if isinstance(node, ast.ImportFrom):
                self.assertEqual(node.level, 0, place)
                package, dot, name = node.module.partition(".")
                self.assertEqual(package, "mapwright", place)
                tree = self.trees[PACKAGE / f"{name}.py"]
                tops = [top.targets[0] if isinstance(top, ast.Assign) else top for top in tree.body]
                here = [found for top in tops for found in bound_names(top)]
                for alias in node.names:
                    self.assertIn(alias.name, here, place)

    def test_what_is_drawn_is_used(self):
        for file, tree in self.trees.items():
            used = [node.id for node in ast.walk(tree) if isinstance(node, ast.Name)]
            for node in tree.body:
                if isinstance(node, ast.ImportFrom):
                    for alias in node.names:
                        self.assertIn(alias.name, used, f"{file.name}:{node.lineno}")

    def test_the_top_of_a_file(self):
        for file, tree in self.trees.items():
            self.assertIsNotNone(ast.get_docstring(tree), file.name)
            for node in tree.body[1:]:
                if isinstance(node, ast.Assign):
                    self.assertIsInstance(node.targets[0], ast.Name, f"{file.name}:{node.lineno}")
                    ast.literal_eval(node.value)
                else:
                    self.assertIsInstance(node, (ast.ImportFrom, ast.FunctionDef, ast.ClassDef), file.name)

    def test_what_is_taken_of_errors(self):
        for place, node in self.nodes():
            if isinstance(node, ast.Try):
                self.assertEqual((node.finalbody, len(node.body)), ([], 1), place)
                taken = [handler.type.id for handler in node.handlers]
                calls = [called(inner) for inner in ast.walk(node.body[0]) if isinstance(inner, ast.Call)]
                if "ValueError" in taken:
                    self.assertEqual([name for name in calls if name not in ("int", "str")], [], place)
                self.assertEqual([name for name in taken if name in ("Exception", "TypeError")], [], place)

    def test_keys(self):
        for file, tree in self.trees.items():
            own = [node.name for node in ast.walk(tree) if isinstance(node, ast.FunctionDef)]
            own.extend([alias.name for node in tree.body if isinstance(node, ast.ImportFrom) for alias in node.names])
            for node in ast.walk(tree):
                if isinstance(node, ast.keyword) and node.arg == "key" and not isinstance(node.value, ast.Lambda):
                    self.assertIn(node.value.id, own + KEYS, f"{file.name}:{node.value.lineno}")

    def test_no_two_files_draw_from_one_another(self):
        drawn = {}
        for file, tree in self.trees.items():
            drawn[file.stem] = [node.module.split(".")[1] for node in tree.body if isinstance(node, ast.ImportFrom)]
        while drawn:
            free = [name for name, others in drawn.items() if not any(other in drawn for other in others)]
            self.assertNotEqual(free, [], f"these draw from one another: {sorted(drawn)}")
            drawn = {name: others for name, others in drawn.items() if name not in free}


if __name__ == "__main__":
    unittest.main()
