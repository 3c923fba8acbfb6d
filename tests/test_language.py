"""Some of the rules of the language that can be read off the files of the package."""

import ast
import pathlib
import re
import unittest

FOLDER = pathlib.Path(__file__).resolve().parent.parent / "bothplans"
FILES = sorted(path for path in FOLDER.iterdir() if path.name != "__pycache__")

BUILTINS = set("""len range enumerate zip min max sum abs sorted reversed int str bool list tuple dict set isinstance
    ord repr any all divmod ValueError""".split())
METHODS = set("""append clear copy count endswith extend find get index insert isalnum isalpha isdigit islower isspace
    isupper items join keys ljust lower lstrip partition pop remove replace reverse rfind rjust rpartition rsplit rstrip
    setdefault split splitlines startswith strip update upper values zfill bit_length isascii isdecimal""".split())
BARRED = set("""register mro elements open input law version_info with_traceback add_note type typing enum eval exec
    compile dir vars id help globals locals exit quit os gc next iter map filter hash round""".split())
STATEMENTS = (ast.Assign, ast.AugAssign, ast.If, ast.While, ast.For, ast.Return, ast.Break, ast.Continue, ast.Pass,
              ast.Raise, ast.Expr, ast.FunctionDef, ast.ClassDef, ast.ImportFrom, ast.Try)


def trees():
    for path in FILES:
        yield path.name, ast.parse(path.read_text(encoding="utf-8"))


class LanguageTest(unittest.TestCase):
    def test_files(self):
        self.assertTrue(FILES)
        self.assertLessEqual(len(FILES), 100)
        for path in FILES:
            self.assertRegex(path.name, r"^[a-z_][a-z0-9_]*\.py$")

    def test_sizes_and_characters(self):
        for path in FILES:
            text = path.read_text(encoding="utf-8")
            self.assertIsNone(re.search(r"[^ -~\n]", text), path.name)
            lines = text.split("\n")
            self.assertLessEqual(len(lines), 399, path.name)
            for line in lines:
                self.assertLessEqual(len(line), 120, path.name)
        for name, tree in trees():
            for node in ast.walk(tree):
                if isinstance(node, ast.FunctionDef):
                    self.assertLessEqual(node.end_lineno - node.lineno + 1, 40, (name, node.name))

    def test_no_percent_sign_in_a_string(self):
        for name, tree in trees():
            for node in ast.walk(tree):
                if isinstance(node, ast.Constant) and isinstance(node.value, str):
                    self.assertNotIn("%", node.value, (name, node.lineno))

    def test_sets_are_made_where_they_are_used(self):
        """A set stands after `in`, beside == of another one, or in sorted(..) or len(..)."""
        for name, tree in trees():
            right = set()
            for node in ast.walk(tree):
                if isinstance(node, ast.Call) and isinstance(node.func, ast.Name) and node.func.id in ("sorted", "len"):
                    right |= {id(argument) for argument in node.args}
                if isinstance(node, ast.Compare) and isinstance(node.ops[0], (ast.In, ast.NotIn)):
                    right.add(id(node.comparators[0]))
            for node in ast.walk(tree):
                called = isinstance(node, ast.Call) and isinstance(node.func, ast.Name) and node.func.id == "set"
                if called or isinstance(node, (ast.Set, ast.SetComp)):
                    self.assertIn(id(node), right, (name, node.lineno))

    def test_views_and_ranges_are_iterated_at_once(self):
        """As what a loop or a comprehension goes over, or as the argument of what goes over it; a range also after in."""
        takers = ("list", "tuple", "dict", "sorted", "sum", "any", "all", "enumerate", "zip", "min", "max", "reversed")
        for name, tree in trees():
            right = set()
            for node in ast.walk(tree):
                if isinstance(node, (ast.For, ast.comprehension)):
                    right.add(id(node.iter))
                if isinstance(node, ast.Call) and isinstance(node.func, ast.Name) and node.func.id in takers:
                    right |= {id(argument) for argument in node.args}
            for node in ast.walk(tree):
                if isinstance(node, ast.Call):
                    lazy = isinstance(node.func, ast.Name) and node.func.id in ("zip", "enumerate", "reversed", "range")
                    view = isinstance(node.func, ast.Attribute) and node.func.attr in ("items", "keys", "values")
                    if lazy or view:
                        self.assertIn(id(node), right, (name, node.lineno))

    def test_only_plain_statements(self):
        for name, tree in trees():
            for node in ast.walk(tree):
                if isinstance(node, ast.stmt):
                    self.assertIsInstance(node, STATEMENTS, (name, node.lineno))
                self.assertNotIsInstance(node, (ast.GeneratorExp, ast.Lambda, ast.Yield, ast.Pow, ast.Div), name)
            for node in tree.body:
                self.assertIsInstance(node, (ast.Expr, ast.ImportFrom, ast.FunctionDef, ast.ClassDef), name)

    def test_imports_name_the_file_that_defines(self):
        own = {name[:-3]: {node.name for node in tree.body if hasattr(node, "name")} for name, tree in trees()}
        graph = {}
        for name, tree in trees():
            graph[name[:-3]] = []
            for node in ast.walk(tree):
                if isinstance(node, ast.ImportFrom):
                    self.assertEqual(node.level, 0)
                    package, module = node.module.split(".")
                    self.assertEqual(package, "bothplans")
                    graph[name[:-3]].append(module)
                    for alias in node.names:
                        self.assertIsNone(alias.asname)
                        self.assertIn(alias.name, own[module], name)
        ready = []
        while len(ready) < len(graph):
            free = [name for name in graph if name not in ready and all(below in ready for below in graph[name])]
            self.assertTrue(free, "files import from each other")
            ready.extend(free)

    def test_all_imports_are_used(self):
        for name, tree in trees():
            used = {node.id for node in ast.walk(tree) if isinstance(node, ast.Name)}
            used |= {base.id for node in ast.walk(tree) if isinstance(node, ast.ClassDef) for base in node.bases}
            for node in ast.walk(tree):
                if isinstance(node, ast.ImportFrom):
                    for alias in node.names:
                        self.assertIn(alias.name, used, name)

    def test_names(self):
        for name, tree in trees():
            imported = {alias.name for node in ast.walk(tree) if isinstance(node, ast.ImportFrom) for alias in node.names}
            defined = {node.name for node in tree.body if hasattr(node, "name")}
            bound = {node.id for node in ast.walk(tree) if isinstance(node, ast.Name) and isinstance(node.ctx, ast.Store)}
            bound |= {node.arg for node in ast.walk(tree) if isinstance(node, ast.arg)}
            attributes = {node.attr for node in ast.walk(tree) if isinstance(node, ast.Attribute)}
            self.assertFalse(bound & (imported | defined | BUILTINS), name)
            self.assertFalse((bound | defined | attributes) & BARRED, name)
            read = {node.id for node in ast.walk(tree) if isinstance(node, ast.Name) and isinstance(node.ctx, ast.Load)}
            self.assertFalse(read - bound - imported - defined - BUILTINS, name)

    def test_methods_of_builtin_values(self):
        own = {node.name for _, tree in trees() for top in tree.body if isinstance(top, ast.ClassDef)
               for node in top.body if isinstance(node, ast.FunctionDef)}
        self.assertFalse(own & METHODS)
        for name, tree in trees():
            for node in ast.walk(tree):
                if isinstance(node, ast.Call) and isinstance(node.func, ast.Attribute):
                    self.assertIn(node.func.attr, METHODS | own, (name, node.lineno))

    def test_what_a_try_catches_and_ends_with(self):
        """Own errors alone are caught; a finally gives names and attributes what names hold."""
        for name, tree in trees():
            for node in ast.walk(tree):
                if isinstance(node, ast.Try):
                    self.assertFalse(node.orelse, name)
                    for handler in node.handlers:
                        self.assertEqual((handler.type.id, handler.name), ("PlanError", None), name)
                    for line in node.finalbody:
                        self.assertIsInstance(line, ast.Assign, name)
                        for part in ast.walk(line):
                            self.assertIsInstance(part, (ast.Assign, ast.Tuple, ast.Attribute, ast.Name, ast.expr_context), name)

    def test_len_is_that_of_something(self):
        for name, tree in trees():
            for node in ast.walk(tree):
                if isinstance(node, ast.FunctionDef) and node.name == "__len__":
                    self.assertRegex(ast.unparse(node.body[-1]), r"^return len\([a-z_.]+\)$", name)

    def test_is_stands_beside_none_true_and_false(self):
        for name, tree in trees():
            for node in ast.walk(tree):
                if isinstance(node, ast.Compare) and isinstance(node.ops[0], (ast.Is, ast.IsNot)):
                    self.assertIsInstance(node.comparators[0], ast.Constant, name)


if __name__ == "__main__":
    unittest.main()
