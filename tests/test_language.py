"""Those rules of the language that a look at the code can tell."""

import ast
import builtins
import re
import unittest
from pathlib import Path

PACKAGE = Path(__file__).parent.parent / "trackloom"

BUILTINS = {
    "len", "range", "enumerate", "zip", "min", "max", "sum", "abs", "sorted", "reversed", "int", "str", "bool",
    "list", "tuple", "dict", "set", "isinstance", "ord", "repr", "any", "all", "divmod", "ValueError",
}
METHODS = {
    "append", "clear", "copy", "count", "endswith", "extend", "find", "get", "index", "insert", "isalnum", "isalpha",
    "isdigit", "islower", "isspace", "isupper", "items", "join", "keys", "ljust", "lower", "lstrip", "partition",
    "pop", "isascii", "removeprefix", "remove", "replace", "reverse", "rfind", "rjust", "rpartition", "rsplit", "rstrip", "setdefault", "split",
    "splitlines", "startswith", "strip", "update", "upper", "values", "zfill", "bit_length",
}
BARRED = (
    ast.AsyncFunctionDef, ast.AsyncFor, ast.AsyncWith, ast.Await, ast.Global, ast.Import, ast.Div, ast.MatMult,
    ast.SetComp, ast.GeneratorExp, ast.Yield, ast.YieldFrom, ast.Starred, ast.NamedExpr, ast.AnnAssign,
)
FILES = sorted(PACKAGE.glob("*.py"))


def nodes_of(kinds):
    """The file and node of each node of these kinds in the package."""
    for file in FILES:
        for node in ast.walk(ast.parse(file.read_text())):
            if isinstance(node, kinds):
                yield f"{file.name}:{getattr(node, 'lineno', 0)}", node


def own_names():
    """All names that the package defines at module level."""
    return {node.name for _, node in nodes_of((ast.FunctionDef, ast.ClassDef))}


class Language(unittest.TestCase):
    def test_files_and_lines(self):
        for path in PACKAGE.iterdir():
            if path.name != "__pycache__":
                self.assertRegex(path.name, r"^[a-z_]+\.py$")
        for file in FILES:
            text = file.read_text()
            self.assertLessEqual(len(text.splitlines()), 399, file.name)
            self.assertRegex(text, r"^[ -~\n]*\Z", file.name)
            self.assertLessEqual(max(map(len, text.splitlines())), 120, file.name)
            self.assertTrue(text.endswith("\n") and not text.endswith("\n\n"), file.name)
            self.assertFalse(re.search(r"[ \t]$", text, re.MULTILINE), file.name)

    def test_functions_are_short_and_bare(self):
        for where, node in nodes_of(ast.FunctionDef):
            self.assertLessEqual(node.end_lineno - node.lineno + 1, 40, where)
            self.assertEqual(node.decorator_list, [], where)

    def test_imports_name_the_file_that_defines(self):
        for where, node in nodes_of(ast.ImportFrom):
            self.assertEqual(node.level, 0, where)
            self.assertTrue(node.module.startswith("trackloom."), where)
            body = ast.parse((PACKAGE / f"{node.module.split('.')[1]}.py").read_text()).body
            defined = {row.name for row in body if isinstance(row, (ast.FunctionDef, ast.ClassDef))}
            defined |= {row.targets[0].id for row in body if isinstance(row, ast.Assign)}
            for name in node.names:
                self.assertIsNone(name.asname, where)
                self.assertIn(name.name, defined, where)

    def test_no_two_files_import_each_other(self):
        ahead = {}
        for file in FILES:
            rows = ast.parse(file.read_text()).body
            ahead[file.stem] = {row.module.split(".")[1] for row in rows if isinstance(row, ast.ImportFrom)}
        done = set()
        while len(done) < len(ahead):
            free = {name for name in ahead if name not in done and ahead[name] <= done}
            self.assertTrue(free, set(ahead) - done)
            done |= free

    def test_imports_are_used(self):
        for file in FILES:
            tree = ast.parse(file.read_text())
            used = {node.id for node in ast.walk(tree) if isinstance(node, ast.Name)}
            for node in tree.body:
                if isinstance(node, ast.ImportFrom):
                    for name in node.names:
                        self.assertIn(name.name, used, file.name)

    def test_nothing_barred(self):
        for where, node in nodes_of(BARRED):
            self.fail(f"{where}: {type(node).__name__}")
        for where, node in nodes_of(ast.Constant):
            self.assertNotIsInstance(node.value, (float, complex), where)
            if isinstance(node.value, str):
                self.assertNotIn("%", node.value, where)
        for where, node in nodes_of(ast.Pow):
            self.fail(f"{where}: a power is written as a shift")

    def test_calls_are_of_what_is_let(self):
        own = own_names()
        from_tables = {
            node.targets[0].id for _, node in nodes_of(ast.Assign)
            if isinstance(node.targets[0], ast.Name) and isinstance(node.value, ast.Subscript)
            and isinstance(node.value.value, ast.Name) and node.value.value.id.isupper()
        }
        for where, node in nodes_of(ast.Call):
            self.assertEqual(node.keywords, [], where)
            if isinstance(node.func, ast.Name):
                self.assertIn(node.func.id, BUILTINS | own | from_tables, where)
            else:
                self.assertIn(node.func.attr, METHODS | own, where)

    def test_zips_and_the_like_are_iterated_at_once(self):
        for file in FILES:
            tree = ast.parse(file.read_text())
            fine = set()
            for node in ast.walk(tree):
                if isinstance(node, (ast.For, ast.comprehension)):
                    fine.add(id(node.iter))
                    if isinstance(node.iter, ast.Call) and ast.unparse(node.iter.func) == "enumerate":
                        fine.add(id(node.iter.args[0]))
            for node in ast.walk(tree):
                if isinstance(node, ast.Call) and isinstance(node.func, ast.Name):
                    if node.func.id in ("zip", "enumerate", "reversed", "range"):
                        self.assertIn(id(node), fine, f"{file.name}:{node.lineno}")

    def test_names_do_not_hide_others(self):
        barred = BUILTINS | set(dir(builtins)) | {"type", "open", "input", "mro", "elements", "law", "register"}
        for file in FILES:
            tree = ast.parse(file.read_text())
            top = {row.name for row in tree.body if isinstance(row, (ast.FunctionDef, ast.ClassDef))}
            for row in tree.body:
                if isinstance(row, ast.ImportFrom):
                    top |= {name.name for name in row.names}
            bound = {node.arg for node in ast.walk(tree) if isinstance(node, ast.arg)}
            for node in ast.walk(tree):
                if isinstance(node, ast.Name) and isinstance(node.ctx, ast.Store):
                    bound.add(node.id)
            self.assertEqual(bound & (top | barred), set(), file.name)
            self.assertEqual(top & barred, set(), file.name)

    def test_attributes_and_methods_have_names_of_their_own(self):
        taken = {name for kind in (str, int, list, dict, set, bytes, tuple) for name in dir(kind)}
        for where, node in nodes_of(ast.Attribute):
            if isinstance(node.ctx, ast.Store):
                self.assertNotIn(node.attr, (taken | {"args"}) - {"copy", "count", "index", "title", "find", "get", "join"}, where)
        for where, node in nodes_of(ast.ClassDef):
            methods = {row.name for row in node.body if isinstance(row, ast.FunctionDef)}
            stored = {row.attr for row in ast.walk(node) if isinstance(row, ast.Attribute) and isinstance(row.ctx, ast.Store)}
            self.assertEqual(methods & (taken - {"__init__", "__eq__"}), set(), where)
            self.assertEqual(methods & stored, set(), where)

    def test_names_are_bound_once(self):
        for where, node in nodes_of((ast.Module, ast.ClassDef)):
            names = [row.name for row in node.body if isinstance(row, (ast.FunctionDef, ast.ClassDef))]
            names += [row.targets[0].id for row in node.body if isinstance(row, ast.Assign)]
            names += [name.name for row in node.body if isinstance(row, ast.ImportFrom) for name in row.names]
            self.assertEqual(len(names), len(set(names)), where)

    def test_each_function_tells_what_it_is_for(self):
        for where, node in nodes_of((ast.FunctionDef, ast.ClassDef, ast.Module)):
            if not getattr(node, "name", "").startswith("__"):
                self.assertTrue(ast.get_docstring(node), where)


if __name__ == "__main__":
    unittest.main()
