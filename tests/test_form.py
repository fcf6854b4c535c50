"""The form of the code: the rules of the language that can be seen by reading the files."""

import ast
import builtins
import unittest
from pathlib import Path

PACKAGE = Path(__file__).parent.parent / "bringnear"
FILES = sorted(PACKAGE.rglob("*.py"))
PRODUCTS = {"combinations", "permutations"}
LIBRARY = {"math": {"gcd", "lcm", "isqrt", "comb", "perm", "factorial"}, "itertools": PRODUCTS}
CALLED_BY_PLACE = set().union(*LIBRARY.values())
BUILTINS = {
    "len", "range", "enumerate", "zip", "min", "max", "sum", "abs", "sorted", "reversed", "int", "str", "bool", "list",
    "tuple", "dict", "set", "isinstance", "any", "all", "divmod", "super", "ValueError",
}
METHODS = {"append", "extend", "items", "keys", "values", "get", "count", "index", "join", "pop", "__init__"}
BARRED = {"register", "mro", "elements", "open", "input", "law", "type", "typing", "enum", "dataclass"}
STATEMENTS = (
    ast.Assign, ast.AugAssign, ast.If, ast.While, ast.For, ast.Return, ast.Break, ast.Continue, ast.Pass, ast.Raise,
    ast.Expr, ast.FunctionDef, ast.ClassDef, ast.ImportFrom,
)


def assigned_names(tree):
    found = {node.id for node in ast.walk(tree) if isinstance(node, ast.Name) and isinstance(node.ctx, ast.Store)}
    found |= {node.arg for node in ast.walk(tree) if isinstance(node, ast.arg)}
    return found | {node.name for node in ast.walk(tree) if isinstance(node, (ast.FunctionDef, ast.ClassDef))}


def imported_names(tree):
    return {alias.name for node in tree.body if isinstance(node, ast.ImportFrom) for alias in node.names}


class Form(unittest.TestCase):
    def each_tree(self):
        return [(path, ast.parse(path.read_text(encoding="utf-8"))) for path in FILES]

    def test_folder(self):
        others = [path for path in PACKAGE.rglob("*")
                  if path.suffix != ".py" and "__pycache__" not in path.parts]
        self.assertEqual(others, [])
        self.assertTrue((PACKAGE / "__init__.py").exists())

    def test_lines(self):
        for path in FILES:
            text = path.read_text(encoding="utf-8")
            lines = text.split("\n")
            self.assertLessEqual(len(lines), 399, path.name)
            self.assertLessEqual(max(map(len, lines)), 120, path.name)
            self.assertTrue(all(sign == "\n" or " " <= sign <= "~" for sign in text), path.name)
            self.assertFalse([line for line in lines if line.rstrip() != line], path.name)

    def test_functions_are_short(self):
        for _, tree in self.each_tree():
            for node in ast.walk(tree):
                if isinstance(node, ast.FunctionDef):
                    self.assertLessEqual(node.end_lineno - node.lineno + 1, 40, node.name)
                    self.assertEqual(node.decorator_list, [])

    def test_imports(self):
        known = {"bringnear." + path.stem for path in FILES}
        for _, tree in self.each_tree():
            self.assertFalse([node for node in ast.walk(tree) if isinstance(node, ast.Import)])
            for node in ast.walk(tree):
                if isinstance(node, ast.ImportFrom):
                    self.assertIn(node, tree.body)
                    self.assertEqual(node.level, 0)
                    names = {alias.name for alias in node.names}
                    self.assertTrue(all(alias.asname is None for alias in node.names))
                    self.assertTrue(node.module in known or names <= LIBRARY.get(node.module, set()), node.module)

    def test_imports_are_used(self):
        for path, tree in self.each_tree():
            read = {node.id for node in ast.walk(tree) if isinstance(node, ast.Name) and isinstance(node.ctx, ast.Load)}
            self.assertEqual(imported_names(tree) - read, set(), path.name)

    def test_module_level(self):
        for _, tree in self.each_tree():
            for node in tree.body:
                plain = isinstance(node, (ast.ImportFrom, ast.FunctionDef, ast.ClassDef, ast.Assign))
                self.assertTrue(plain or isinstance(node, ast.Expr) and isinstance(node.value, ast.Constant))
                if isinstance(node, ast.Assign):
                    self.check_plain(node.value, {part.name: part.lineno for part in tree.body
                                                  if isinstance(part, ast.FunctionDef)})

    def check_plain(self, value, functions):
        """A plain value, or a table of functions that are defined above it in the file."""
        if isinstance(value, ast.Dict) and isinstance(value.values[0], ast.Name):
            for key, part in zip(value.keys, value.values):
                ast.literal_eval(key)
                self.assertLess(functions[part.id], value.lineno)
            return
        ast.literal_eval(value)

    def test_names(self):
        for _, tree in self.each_tree():
            names = assigned_names(tree)
            top = {node.name for node in tree.body if isinstance(node, ast.ClassDef)}
            barred = {name for name in dir(builtins) if name not in ("__doc__", "_")} | BARRED | imported_names(tree)
            self.assertEqual(names & barred, set())
            self.assertFalse([name for name in names if name.startswith("__") and name != "__init__"])
            stored = {node.id for node in ast.walk(tree) if isinstance(node, ast.Name) and isinstance(node.ctx, ast.Store)}
            self.assertEqual(stored & top, set())

    def test_builtins(self):
        for _, tree in self.each_tree():
            own = assigned_names(tree) | imported_names(tree)
            for node in ast.walk(tree):
                if isinstance(node, ast.Name) and node.id not in own:
                    self.assertIn(node.id, BUILTINS)

    def test_statements_and_expressions(self):
        for _, tree in self.each_tree():
            for node in ast.walk(tree):
                if isinstance(node, ast.stmt):
                    self.assertIsInstance(node, STATEMENTS, node.lineno)
                if isinstance(node, ast.Constant):
                    self.assertNotIsInstance(node.value, (float, complex))
                self.assertNotIsInstance(node, (ast.Div, ast.SetComp, ast.Set, ast.Lambda, ast.NamedExpr, ast.Global))
                if isinstance(node, ast.Pow):
                    continue
                if isinstance(node, ast.BinOp) and isinstance(node.op, ast.Pow):
                    self.assertIsInstance(node.right, ast.Constant)
                if isinstance(node, ast.Call) and isinstance(node.func, ast.Attribute):
                    self.assertIn(node.func.attr, METHODS)

    def test_stars_in_calls(self):
        """Only a function of the package, or zip, takes a star."""
        for _, tree in self.each_tree():
            for node in ast.walk(tree):
                if isinstance(node, ast.Call) and any(isinstance(part, ast.Starred) for part in node.args):
                    self.assertNotIn(node.func.id, CALLED_BY_PLACE)

    def test_what_stands_behind_a_star_in_a_call(self):
        for _, tree in self.each_tree():
            for node in ast.walk(tree):
                if isinstance(node, ast.Call):
                    starred = [part.value for part in node.args if isinstance(part, ast.Starred)]
                    self.assertTrue(all(isinstance(part, ast.Name) for part in starred), node.lineno)

    def test_sets_are_only_measured(self):
        for _, tree in self.each_tree():
            called = [node for node in ast.walk(tree) if isinstance(node, ast.Call) and isinstance(node.func, ast.Name)]
            sets = {node for node in called if node.func.id == "set"}
            measured = {part for node in called if node.func.id in ("len", "sorted") for part in node.args}
            self.assertEqual(sets - measured, set())

    def test_products_are_gone_through_at_once(self):
        for _, tree in self.each_tree():
            calls = {node for node in ast.walk(tree) if isinstance(node, ast.Call) and isinstance(node.func, ast.Name)
                     and node.func.id in PRODUCTS}
            at_once = {node.iter for node in ast.walk(tree) if isinstance(node, ast.For)}
            self.assertEqual(calls - at_once, set())

    def test_files_do_not_import_each_other(self):
        ways = {}
        for path, tree in self.each_tree():
            ways["bringnear." + path.stem] = {node.module for node in tree.body if isinstance(node, ast.ImportFrom)}
        for start in ways:
            seen, queue = set(), list(ways[start])
            while queue:
                name = queue.pop()
                if name not in seen:
                    seen.add(name)
                    queue.extend(ways.get(name, ()))
            self.assertNotIn(start, seen)


if __name__ == "__main__":
    unittest.main()
