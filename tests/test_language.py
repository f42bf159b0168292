"""The package keeps to its small subset of Python, as far as that can be seen file by file."""

import ast
import builtins
import pathlib
import unittest
import warnings

PACKAGE = pathlib.Path(__file__).resolve().parent.parent / "enoughlooks"
BUILTINS = """len range enumerate zip min max sum abs sorted reversed int str bool list tuple dict set isinstance ord repr any all
divmod ValueError KeyError ZeroDivisionError""".split()
METHODS = """append clear copy count endswith extend find get index insert isalnum isalpha isdigit islower isspace isupper items join
keys ljust lower lstrip partition pop remove replace reverse rfind rjust rpartition rsplit rstrip setdefault split splitlines
startswith strip update upper values zfill bit_length isascii isdecimal isprintable removeprefix removesuffix""".split()
BARRED = (ast.GeneratorExp, ast.Global, ast.AsyncFunctionDef, ast.Await, ast.AsyncFor, ast.AsyncWith, ast.Div, ast.AnnAssign, ast.Import,
          ast.Lambda, ast.Yield, ast.YieldFrom, ast.NamedExpr, ast.Starred, ast.Set, ast.SetComp, ast.With, ast.Match)
WORDS = """register mro elements open input law version_info with_traceback add_note eval exec compile globals locals vars dir id type
hash getattr setattr delattr typing enum dataclass namedtuple""".split()
DUNDERS = ["__init__", "__eq__"]


def files():
    return {path.stem: path.read_text() for path in sorted(PACKAGE.glob("*.py"))}


def defined(tree):
    return [node.name for node in tree.body if isinstance(node, (ast.FunctionDef, ast.ClassDef))]


def bound(tree):
    """All names that are bound at module level."""
    names = defined(tree)
    for node in tree.body:
        if isinstance(node, ast.ImportFrom):
            names.extend(alias.asname or alias.name for alias in node.names)
        elif isinstance(node, ast.Assign):
            names.extend(target.id for target in node.targets)
    return names


class TestLanguage(unittest.TestCase):
    def setUp(self):
        self.texts = files()
        self.trees = {name: ast.parse(text) for name, text in self.texts.items()}

    def nodes(self, kind):
        for name, tree in self.trees.items():
            for node in ast.walk(tree):
                if isinstance(node, kind):
                    yield f"{name}:{getattr(node, 'lineno', 0)}", node

    def test_sizes_and_signs(self):
        for name, text in self.texts.items():
            lines = text.split("\n")
            self.assertLessEqual(len(lines) - 1, 399, name)
            self.assertLessEqual(max(len(line) for line in lines), 120, name)
            self.assertTrue(all(sign == "\n" or " " <= sign <= "~" for sign in text), name)
        for place, node in self.nodes(ast.FunctionDef):
            self.assertLessEqual(node.end_lineno - node.lineno + 1, 40, place)

    def test_no_warnings(self):
        for name, text in self.texts.items():
            with warnings.catch_warnings():
                warnings.simplefilter("error")
                compile(text, name, "exec")

    def test_statements(self):
        for place, node in self.nodes(BARRED):
            self.fail(f"{place}: {type(node).__name__}")
        for place, node in self.nodes(ast.FunctionDef):
            self.assertEqual(node.decorator_list, [], place)
            inner = [each for each in ast.walk(node) if isinstance(each, (ast.FunctionDef, ast.ClassDef)) and each is not node]
            self.assertEqual(inner, [], place)

    def test_own_errors_are_caught_by_name(self):
        own = defined(self.trees["errors"])
        for place, node in self.nodes(ast.Try):
            self.assertEqual((node.finalbody, node.orelse, len(node.body)), ([], [], 1), place)
            for handler in node.handlers:
                self.assertIn(handler.type.id, own, place)
        for place, node in self.nodes(ast.Raise):
            self.assertTrue(node.exc is None or node.exc.func.id in own, place)
            self.assertIsNone(node.cause, place)

    def test_module_level(self):
        for name, tree in self.trees.items():
            kinds = (ast.ImportFrom, ast.FunctionDef, ast.ClassDef, ast.Assign, ast.Expr)
            for node in tree.body:
                self.assertIsInstance(node, kinds, name)
                if isinstance(node, (ast.Assign, ast.Expr)):
                    parts = node.value.elts if isinstance(node.value, ast.Tuple) else [node.value]
                    self.assertTrue(all(isinstance(part, ast.Constant) for part in parts), name)
            names = bound(tree)
            self.assertEqual(len(names), len(set(names)), name)
            self.assertFalse(set(names) & set(dir(builtins)), name)

    def test_imports(self):
        order = ["errors", "forms", "tables", "texts", "pages", "trees", "disk", "journal", "store", "questions", "reader", "meaning",
                 "forests", "gaps", "looks", "boxes", "papers", "judge", "least", "apart", "shapes", "counting", "turns", "engine",
                 "heard", "readers", "others", "kept", "house", "desk"]
        self.assertEqual(sorted([*order, "__init__"]), sorted(self.texts))
        for place, node in self.nodes(ast.ImportFrom):
            package, module = node.module.split(".")
            self.assertEqual((package, node.level), ("enoughlooks", 0), place)
            self.assertLess(order.index(module), order.index(place.split(":")[0]), place)
            tree = self.trees[module]
            for alias in node.names:
                self.assertIn(alias.name, set(bound(tree)), place)
                self.assertIsNone(alias.asname, place)
                used = [each for each in ast.walk(self.trees[place.split(":")[0]]) if isinstance(each, ast.Name) and each.id == alias.name]
                self.assertTrue(used, f"{place}: {alias.name} is not used")

    def test_names(self):
        for name, tree in self.trees.items():
            taken = {alias.name for node in tree.body if isinstance(node, ast.ImportFrom) for alias in node.names}
            taken |= {node.name for node in tree.body if isinstance(node, ast.ClassDef)} | set(dir(builtins)) | set(WORDS)
            # Examples that ran ahead of this test leave a builtin of this name.
            taken -= {"_"}
            stored = [node.id for node in ast.walk(tree) if isinstance(node, ast.Name) and isinstance(node.ctx, ast.Store)]
            stored += [node.arg for node in ast.walk(tree) if isinstance(node, ast.arg)]
            self.assertFalse(taken & set(stored), name)
            known = set(bound(tree)) | set(stored) | set(BUILTINS)
            loaded = {node.id for node in ast.walk(tree) if isinstance(node, ast.Name) and isinstance(node.ctx, ast.Load)}
            self.assertFalse(loaded - known, name)

    def test_methods(self):
        own = {node.name for _, kind in self.nodes(ast.ClassDef) for node in kind.body if isinstance(node, ast.FunctionDef)}
        for place, node in self.nodes(ast.Call):
            if isinstance(node.func, ast.Attribute):
                self.assertIn(node.func.attr, set(METHODS) | own, place)
                self.assertEqual(node.keywords, [], place)
        self.assertEqual({name for name in own if name.startswith("__")}, set(DUNDERS))
        attributes = {node.attr for _, node in self.nodes(ast.Attribute) if isinstance(node.ctx, ast.Store)}
        self.assertFalse(attributes & own)

    def test_is_and_percent(self):
        for place, node in self.nodes(ast.Compare):
            if any(isinstance(sign, (ast.Is, ast.IsNot)) for sign in node.ops):
                self.assertTrue(all(isinstance(each, ast.Constant) for each in node.comparators), place)
        for place, node in self.nodes(ast.Constant):
            self.assertIsInstance(node.value, (str, int, type(None)), place)
            self.assertNotIn("%", str(node.value), place)

    def test_the_folder_holds_nothing_else(self):
        others = [path.name for path in PACKAGE.iterdir() if path.suffix != ".py" and path.name != "__pycache__"]
        self.assertEqual(others, [])


if __name__ == "__main__":
    unittest.main()
