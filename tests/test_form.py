"""The form of the package's files, as far as it can be read off them mechanically."""

import ast
import builtins
import pathlib
import re
import unittest

PACKAGE = pathlib.Path(__file__).resolve().parent.parent / "floodtree"
FILES = sorted(path for path in PACKAGE.rglob("*") if path.is_file() and "__pycache__" not in path.parts)

PYTHON_NAMES = {word for word in dir(builtins) if not word.startswith("_")}
OWN_NAMES = set(
    "len range enumerate zip min max sum abs sorted reversed int str bool list tuple dict set frozenset isinstance "
    "ord repr any all divmod Exception ValueError TypeError KeyError IndexError LookupError ZeroDivisionError "
    "ArithmeticError OverflowError RuntimeError NotImplementedError AttributeError StopIteration".split()
)
OWN_METHODS = set(
    "append clear copy count endswith extend find get index insert isalnum isalpha isdigit islower isspace isupper "
    "items join keys ljust lower lstrip partition pop remove replace reverse rfind rjust rpartition rsplit rstrip "
    "setdefault split splitlines startswith strip update upper values zfill bit_length".split()
)
FORBIDDEN_WORDS = (
    r"\b(type|typing|typing_extensions|enum|Enum|IntEnum|StrEnum|Flag|IntFlag|Generic|Protocol|ABC|ABCMeta"
    r"|namedtuple|NamedTuple|TypedDict|TYPE_CHECKING|abstractmethod)\b|dataclass|overload|contextmanager"
)
FORBIDDEN_NODES = (
    ast.With, ast.Match, ast.Delete, ast.Global, ast.Nonlocal, ast.Assert, ast.Yield, ast.YieldFrom, ast.Await,
    ast.AsyncFunctionDef, ast.AsyncFor, ast.AsyncWith, ast.AnnAssign, ast.Import, ast.Set, ast.SetComp,
    ast.DictComp, ast.GeneratorExp, ast.NamedExpr, ast.Starred, ast.Div,
)
TOP_NODES = (ast.ImportFrom, ast.FunctionDef, ast.ClassDef, ast.Assign)


def is_docstring(node):
    return isinstance(node, ast.Expr) and isinstance(node.value, ast.Constant) and isinstance(node.value.value, str)


def bound_names(tree):
    for node in ast.walk(tree):
        if isinstance(node, (ast.FunctionDef, ast.ClassDef)):
            yield node.name
        elif isinstance(node, ast.arg):
            yield node.arg
        elif isinstance(node, ast.Name) and isinstance(node.ctx, ast.Store):
            yield node.id
        elif isinstance(node, ast.Attribute) and isinstance(node.ctx, ast.Store):
            yield node.attr


class FormTest(unittest.TestCase):
    def each_tree(self):
        for path in FILES:
            yield path.name, ast.parse(path.read_text("utf-8"))

    def test_files_are_plain_and_small(self):
        self.assertIn(PACKAGE / "__init__.py", FILES)
        for path in FILES:
            self.assertRegex(path.name, r"^[a-z_][a-z0-9_]*\.py$")
            lines = path.read_text("utf-8").split("\n")
            self.assertLessEqual(len(lines), 400, path.name)
            self.assertLessEqual(max(len(line) for line in lines), 120, path.name)

    def test_signs_and_words(self):
        for path in FILES:
            text = path.read_text("utf-8")
            self.assertRegex(text, r"\A[ -~\n]*\Z", path.name)
            self.assertIsNone(re.search(FORBIDDEN_WORDS, text), path.name)

    def test_the_top_of_each_file(self):
        for name, tree in self.each_tree():
            self.assertTrue(is_docstring(tree.body[0]), name)
            for node in tree.body[1:]:
                self.assertIsInstance(node, TOP_NODES, name)

    def test_imports(self):
        for name, tree in self.each_tree():
            for node in ast.walk(tree):
                if isinstance(node, ast.ImportFrom):
                    self.assertRegex(node.module, r"^floodtree\.[a-z]+$", name)
                    self.assertEqual((node.level, [alias.asname for alias in node.names if alias.asname]), (0, []))
                    self.assertNotIn("*", [alias.name for alias in node.names], name)
                    self.assertIn(node, tree.body, name)

    def test_no_node_outside_the_rules(self):
        for name, tree in self.each_tree():
            for node in ast.walk(tree):
                self.assertNotIsInstance(node, FORBIDDEN_NODES, name)
                if isinstance(node, (ast.For, ast.While)):
                    self.assertEqual(node.orelse, [], name)
                if isinstance(node, ast.ListComp):
                    self.assertEqual(len(node.generators), 1, name)
                    self.assertLessEqual(len(node.generators[0].ifs), 1, name)
                if isinstance(node, ast.Assign):
                    self.assertEqual(len(node.targets), 1, name)
                if isinstance(node, ast.Constant):
                    self.assertNotIsInstance(node.value, (float, bytes, complex), name)
                if isinstance(node, ast.Expr) and node is not tree.body[0]:
                    self.assertIsInstance(node.value, ast.Call, name)

    def test_texts_hold_no_percent_sign_and_f_strings_plain_names(self):
        for name, tree in self.each_tree():
            for node in ast.walk(tree):
                if isinstance(node, ast.Constant) and isinstance(node.value, str):
                    self.assertNotIn("%", node.value, name)
                if isinstance(node, ast.FormattedValue):
                    self.assertIsInstance(node.value, ast.Name, name)
                    self.assertIsNone(node.format_spec, name)
                    self.assertIn(node.conversion, (-1, ord("r")), name)

    def test_values_at_the_top_are_plain(self):
        for name, tree in self.each_tree():
            for node in tree.body:
                if isinstance(node, ast.Assign):
                    value = ast.literal_eval(node.value)
                    parts = [part for part in ast.walk(node.value) if isinstance(part, (ast.List, ast.Dict))]
                    self.assertLessEqual(len(parts), 1, name)
                    self.assertIsInstance(value, (int, str, list, tuple, dict, type(None)), name)

    def test_functions(self):
        for name, tree in self.each_tree():
            for node in ast.walk(tree):
                if isinstance(node, ast.FunctionDef):
                    self.assertLess(node.end_lineno - node.lineno, 40, node.name)
                    self.assertEqual((node.decorator_list, node.returns), ([], None), node.name)
                    plain = (node.args.vararg, node.args.kwarg, node.args.kwonlyargs, node.args.posonlyargs)
                    self.assertEqual(plain, (None, None, [], []), node.name)
                if isinstance(node, ast.arg):
                    self.assertIsNone(node.annotation, name)

    def test_names(self):
        for name, tree in self.each_tree():
            for bound in bound_names(tree):
                self.assertRegex(bound, r"^([A-Za-z][A-Za-z0-9_]*|__init__)$", name)
                self.assertNotIn(bound, PYTHON_NAMES, name)
            imported = [alias.name for node in tree.body if isinstance(node, ast.ImportFrom) for alias in node.names]
            self.assertEqual(set(imported) & set(bound_names(tree)), set(), name)
            known = set(bound_names(tree)) | set(imported) | OWN_NAMES
            for node in ast.walk(tree):
                if isinstance(node, ast.Name):
                    self.assertIn(node.id, known, name)

    def test_methods(self):
        own = {bound for name, tree in self.each_tree() for bound in bound_names(tree)}
        for name, tree in self.each_tree():
            for node in ast.walk(tree):
                if isinstance(node, ast.Attribute):
                    self.assertIn(node.attr, own | OWN_METHODS, name)

    def test_no_name_is_a_method_in_one_class_and_a_value_in_another(self):
        methods, kept = set(), set()
        for name, tree in self.each_tree():
            for node in ast.walk(tree):
                if isinstance(node, ast.ClassDef):
                    methods |= {part.name for part in node.body if isinstance(part, ast.FunctionDef)}
                elif isinstance(node, ast.Attribute) and isinstance(node.ctx, ast.Store):
                    kept.add(node.attr)
        self.assertEqual(methods & kept, set())

    def test_imports_come_from_the_file_that_defines_the_name_and_never_lead_round(self):
        trees = {"floodtree." + name.removesuffix(".py"): tree for name, tree in self.each_tree()}
        drawn = {name: set() for name in trees}
        for name, tree in trees.items():
            for node in tree.body:
                if isinstance(node, ast.ImportFrom):
                    drawn[name].add(node.module)
                    defined = {part.name for part in trees[node.module].body if hasattr(part, "name")}
                    self.assertLessEqual({alias.name for alias in node.names}, defined, name)
        while drawn:
            free = {name for name in drawn if not drawn[name]}
            self.assertTrue(free, drawn)
            drawn = {name: drawn[name] - free for name in drawn if name not in free}


if __name__ == "__main__":
    unittest.main()
