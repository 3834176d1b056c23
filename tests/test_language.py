"""The rules for the text of the package, those that can be told from it quickly."""

import ast
import builtins
import unittest
from pathlib import Path

FOLDER = Path(__file__).resolve().parent.parent / "blendcurves"
LIBRARY = {
    "math": {"gcd", "lcm", "isqrt", "comb", "perm", "factorial"},
    "itertools": {"combinations"},
}
BUILTINS = set(
    "len range enumerate zip min max sum abs sorted reversed int str bool list tuple dict set "
    "isinstance ord repr any all divmod type ValueError".split()
)
METHODS = set(
    "append clear copy count endswith extend find get index insert isalnum isalpha isdigit "
    "items join keys partition pop remove replace reverse split startswith strip values".split()
)
BARRED = (
    ast.Global, ast.Try, ast.AsyncFunctionDef, ast.Pow, ast.Div, ast.Set, ast.SetComp,
    ast.JoinedStr, ast.Yield, ast.With, ast.Delete,
)


def trees():
    return {path.name: ast.parse(path.read_text()) for path in sorted(FOLDER.glob("*.py"))}


def defined(tree):
    """The names that a file defines or assigns at module level."""
    found = []
    for node in tree.body:
        if isinstance(node, (ast.FunctionDef, ast.ClassDef)):
            found.append(node.name)
        if isinstance(node, ast.Assign):
            found += [target.id for target in node.targets]
    return found


def imported(tree):
    """The pairs (module, name) that a file imports."""
    found = []
    for node in ast.walk(tree):
        if isinstance(node, ast.ImportFrom):
            found += [(node.module, alias.name) for alias in node.names]
    return found


def bound_in_functions(tree):
    """The parameters and local names of a file."""
    found = []
    for node in ast.walk(tree):
        if isinstance(node, ast.arg):
            found.append(node.arg)
        if isinstance(node, ast.FunctionDef):
            inner = [item for item in ast.walk(node) if isinstance(item, ast.Name)]
            found += [item.id for item in inner if isinstance(item.ctx, ast.Store)]
    return found


def properties(tree):
    """The methods that the document lists as properties."""
    methods = [node for kind in tree.body if isinstance(kind, ast.ClassDef) for node in kind.body]
    return [node for node in methods if getattr(node, "name", "") in ("spline", "depth")]


class Language(unittest.TestCase):
    def test_files(self):
        for path in FOLDER.iterdir():
            if path.name != "__pycache__":
                self.assertRegex(path.name, r"^[a-z_][a-z0-9_]*\.py$")
        self.assertTrue((FOLDER / "__init__.py").exists())

    def test_sizes_and_signs(self):
        for path in FOLDER.glob("*.py"):
            text = path.read_text()
            lines = text.split("\n")
            self.assertLessEqual(len(lines), 400, path.name)
            self.assertLessEqual(max(map(len, lines)), 120, path.name)
            self.assertTrue(all(sign == "\n" or " " <= sign <= "~" for sign in text), path.name)
        for name, tree in trees().items():
            for node in ast.walk(tree):
                if isinstance(node, ast.FunctionDef):
                    self.assertLessEqual(node.end_lineno - node.lineno + 1, 40, node.name)
                    self.assertTrue(ast.get_docstring(node) or node.name == "__init__", node.name)

    def test_imports(self):
        files = trees()
        for name, tree in files.items():
            self.assertFalse([node for node in ast.walk(tree) if isinstance(node, ast.Import)])
            for module, item in imported(tree):
                if module in LIBRARY:
                    self.assertIn(item, LIBRARY[module])
                else:
                    package, file = module.split(".")
                    self.assertEqual(package, "blendcurves")
                    self.assertIn(item, defined(files[file + ".py"]), (name, item))

    def test_module_level(self):
        for name, tree in trees().items():
            for node in tree.body:
                if isinstance(node, ast.Assign):
                    ast.literal_eval(node.value)
                elif isinstance(node, ast.Expr):
                    self.assertIs(node, tree.body[0], name)
                else:
                    self.assertIsInstance(node, (ast.ImportFrom, ast.FunctionDef, ast.ClassDef))

    def test_imports_are_used(self):
        for name, tree in trees().items():
            read = {node.id for node in ast.walk(tree) if isinstance(node, ast.Name)}
            self.assertEqual([item for _, item in imported(tree) if item not in read], [], name)

    def test_no_circle(self):
        files = {
            name[:-3]: {module.split(".")[1] for module, _ in imported(tree) if "." in module}
            for name, tree in trees().items()
        }
        while files:
            free = [name for name, needed in files.items() if not needed & set(files)]
            self.assertTrue(free, sorted(files))
            for name in free:
                del files[name]

    def test_names(self):
        for name, tree in trees().items():
            top = defined(tree) + [item for _, item in imported(tree)]
            self.assertEqual(len(top), len(set(top)), name)
            own = top + bound_in_functions(tree)
            self.assertEqual([item for item in own if hasattr(builtins, item)], [], name)
            taken = {item for _, item in imported(tree)}
            self.assertEqual([item for item in bound_in_functions(tree) if item in taken], [], name)
            for node in ast.walk(tree):
                if isinstance(node, ast.Name) and node.id not in own + ["property"]:
                    self.assertIn(node.id, BUILTINS, (name, node.lineno))

    def test_statements(self):
        for name, tree in trees().items():
            nodes = list(ast.walk(tree))
            self.assertEqual([node for node in nodes if isinstance(node, BARRED)], [], name)
            for node in nodes:
                if isinstance(node, ast.FunctionDef):
                    self.assertEqual([ast.unparse(item) for item in node.decorator_list],
                                     ["property"] if node in properties(tree) else [])
                if isinstance(node, ast.Call) and isinstance(node.func, ast.Attribute):
                    self.assertIn(node.func.attr, METHODS, (name, node.lineno))
                if isinstance(node, ast.Starred):
                    self.assertIsInstance(node.value, ast.Name, (name, node.lineno))
                if isinstance(node, ast.Constant):
                    self.assertNotIsInstance(node.value, float)
                    self.assertNotIn("%", node.value if isinstance(node.value, str) else "")


if __name__ == "__main__":
    unittest.main()
