"""Those rules of the language that can be counted: files, sizes, characters, imports and names."""

import ast
import builtins
import pathlib
import unittest

PACKAGE = pathlib.Path(__file__).resolve().parent.parent / "kindtwice"
FILES = sorted(path for path in PACKAGE.rglob("*") if "__pycache__" not in path.parts)
BARRED = {"type", "typing", "enum", "Enum", "Flag", "Generic", "Protocol", "ABC", "namedtuple", "NamedTuple"}
BUILTINS = set("""len range enumerate zip min max sum abs sorted reversed int str bool bytes list tuple dict set
frozenset isinstance ord repr any all divmod pow ValueError""".split())
METHODS = set("""append clear copy count endswith extend find get index insert isalnum isalpha isdigit islower isspace
isupper items join keys ljust lower lstrip partition pop remove replace reverse rfind rjust rpartition rsplit rstrip
setdefault split splitlines startswith strip update upper values zfill bit_length add discard""".split())
LIBRARY = {"heapq", "math", "itertools", "collections"}


def trees():
    for path in FILES:
        yield path.name, ast.parse(path.read_text(encoding="utf-8"))


def bound_names(node):
    """The names that a piece of code binds, attributes and methods apart."""
    methods = [one for made in ast.walk(node) if isinstance(made, ast.ClassDef) for one in made.body]
    for one in ast.walk(node):
        if isinstance(one, ast.Name) and isinstance(one.ctx, ast.Store):
            yield one.id
        if isinstance(one, ast.arg):
            yield one.arg
        if isinstance(one, (ast.FunctionDef, ast.ClassDef)) and one not in methods:
            yield one.name


class Language(unittest.TestCase):
    def test_l1_l14_files(self):
        self.assertIn(PACKAGE / "__init__.py", FILES)
        for path in FILES:
            self.assertTrue(path.is_file() and path.suffix == ".py" and path.stem == path.stem.lower(), path)

    def test_l10_sizes(self):
        for path in FILES:
            lines = path.read_text(encoding="utf-8").split("\n")
            self.assertLessEqual(len(lines) - 1, 399, path)
            self.assertLessEqual(max(map(len, lines)), 120, path)
        for name, tree in trees():
            for node in ast.walk(tree):
                if isinstance(node, ast.FunctionDef):
                    self.assertLessEqual(node.end_lineno - node.lineno + 1, 40, (name, node.name))

    def test_l14_characters(self):
        for path in FILES:
            text = path.read_text(encoding="utf-8")
            self.assertTrue(all(sign == "\n" or " " <= sign <= "~" for sign in text), path)

    def test_l2_l16_imports(self):
        for name, tree in trees():
            for node in tree.body:
                self.assertNotIsInstance(node, ast.Import, name)
                if isinstance(node, ast.ImportFrom):
                    self.assertEqual(node.level, 0, name)
                    self.assertIn(node.module.split(".")[0], LIBRARY | {"kindtwice"}, name)
                    self.assertTrue(all(alias.asname is None and alias.name != "*" for alias in node.names), name)

    def test_l15_l17_names(self):
        for name, tree in trees():
            for bound in bound_names(tree):
                self.assertFalse(hasattr(builtins, bound), (name, bound))
                self.assertNotIn(bound, BARRED, name)

    def test_l15_locals_and_imports(self):
        for name, tree in trees():
            taken = {alias.name for node in tree.body if isinstance(node, ast.ImportFrom) for alias in node.names}
            taken |= {node.name for node in tree.body if isinstance(node, ast.ClassDef)}
            defined = [node.name for node in tree.body if isinstance(node, (ast.ClassDef, ast.FunctionDef))]
            self.assertEqual(sorted(defined), sorted(set(defined)), name)
            for node in ast.walk(tree):
                if isinstance(node, (ast.FunctionDef, ast.Lambda)):
                    inner = set(bound_names(node)) - {getattr(node, "name", None)}
                    self.assertEqual(inner & taken, set(), name)
            self.assertEqual(set(defined) & {alias for alias in taken if alias not in defined}, set(), name)

    def test_l2_each_import_is_used(self):
        for name, tree in trees():
            used = {node.id for node in ast.walk(tree) if isinstance(node, ast.Name)}
            for node in tree.body:
                if isinstance(node, ast.ImportFrom):
                    self.assertLessEqual({alias.name for alias in node.names}, used, name)

    def test_l6_l7_statements_and_signs(self):
        for name, tree in trees():
            for node in ast.walk(tree):
                self.assertNotIsInstance(node, (ast.Global, ast.Div, ast.AsyncFunctionDef), name)
                if isinstance(node, ast.Constant):
                    self.assertNotIsInstance(node.value, (float, complex), name)

    def test_l7_lists_where_a_class_compares(self):
        for name, tree in trees():
            for node in ast.walk(tree):
                if isinstance(node, ast.Call) and isinstance(node.func, ast.Name):
                    if node.func.id in ("any", "all", "min", "max", "sum", "sorted"):
                        self.assertFalse(any(isinstance(one, ast.GeneratorExp) for one in node.args), name)

    def test_l8_builtins(self):
        for name, tree in trees():
            for node in ast.walk(tree):
                if isinstance(node, ast.Name) and hasattr(builtins, node.id):
                    self.assertIn(node.id, BUILTINS, name)

    def test_l25_methods(self):
        own = {one.name for _, tree in trees() for made in ast.walk(tree) if isinstance(made, ast.ClassDef)
               for one in made.body if isinstance(one, ast.FunctionDef)}
        for name, tree in trees():
            for node in ast.walk(tree):
                if isinstance(node, ast.Call) and isinstance(node.func, ast.Attribute):
                    self.assertIn(node.func.attr, METHODS | own, name)
                    if node.func.attr in METHODS - own:
                        self.assertEqual(node.keywords, [], name)

    def test_l18_methods_and_attributes(self):
        for name, tree in trees():
            for made in ast.walk(tree):
                if isinstance(made, ast.ClassDef):
                    methods = [one.name for one in made.body if isinstance(one, ast.FunctionDef)]
                    held = {one.attr for one in ast.walk(made)
                            if isinstance(one, ast.Attribute) and isinstance(one.ctx, ast.Store)}
                    self.assertEqual(sorted(set(methods)), sorted(methods), name)
                    self.assertEqual(held & set(methods), set(), name)

    def test_l6_blocks_are_left_by_plain_rows(self):
        for name, tree in trees():
            for made in ast.walk(tree):
                if isinstance(made, ast.FunctionDef) and made.name == "__exit__":
                    for row in made.body:
                        self.assertIsInstance(row, ast.Assign, name)
                        self.assertIsInstance(row.value, ast.Attribute, name)
                        self.assertEqual(len(row.targets), 1, name)

    def test_l19_errors_are_caught_by_own_names(self):
        own = {one.name for _, tree in trees() for one in tree.body if isinstance(one, ast.ClassDef)}
        for name, tree in trees():
            for node in ast.walk(tree):
                if isinstance(node, ast.ExceptHandler):
                    caught = node.type.elts if isinstance(node.type, ast.Tuple) else [node.type]
                    self.assertLessEqual({one.id for one in caught}, own, name)
                if isinstance(node, ast.Raise):
                    self.assertIsInstance(node.exc, ast.Call, name)
                    self.assertIn(node.exc.func.id, own, name)
                if isinstance(node, ast.Try):
                    self.assertEqual(node.finalbody, [], name)

    def test_l2_the_library_is_called_by_its_bare_names(self):
        for name, tree in trees():
            taken = {alias.name for node in tree.body if isinstance(node, ast.ImportFrom)
                     and node.module in LIBRARY for alias in node.names}
            called = [node.func for node in ast.walk(tree) if isinstance(node, ast.Call)]
            for node in ast.walk(tree):
                if isinstance(node, ast.Name) and node.id in taken:
                    self.assertIn(node, called, name)

    def test_l23_what_a_loop_goes_over_is_not_changed_in_it(self):
        changing = ("append", "extend", "pop", "remove", "insert", "clear", "update")
        for name, tree in trees():
            for loop in ast.walk(tree):
                if isinstance(loop, ast.For) and isinstance(loop.iter, (ast.Name, ast.Attribute)):
                    gone = ast.dump(loop.iter)
                    for node in ast.walk(ast.Module(loop.body, [])):
                        if isinstance(node, ast.Call) and isinstance(node.func, ast.Attribute):
                            self.assertFalse(node.func.attr in changing and ast.dump(node.func.value) == gone, name)
                        if isinstance(node, ast.Subscript) and not isinstance(node.ctx, ast.Load):
                            self.assertNotEqual(ast.dump(node.value), gone, name)

    def test_l24_sets_are_not_iterated(self):
        for name, tree in trees():
            for node in ast.walk(tree):
                if isinstance(node, (ast.For, ast.comprehension)):
                    one = node.iter
                    self.assertNotIsInstance(one, (ast.Set, ast.SetComp), name)
                    if isinstance(one, ast.Call) and isinstance(one.func, ast.Name):
                        self.assertNotIn(one.func.id, ("set", "frozenset"), name)

    def test_l16_no_two_files_import_from_each_other(self):
        needs = {}
        for name, tree in trees():
            needs["kindtwice." + name[:-3]] = {node.module for node in tree.body if isinstance(node, ast.ImportFrom)}
        while needs:
            free = [name for name in needs if not needs[name] & set(needs)]
            self.assertTrue(free, needs)
            needs = {name: needs[name] for name in needs if name not in free}

    def test_l17_l27_strings(self):
        for name, tree in trees():
            for node in ast.walk(tree):
                if isinstance(node, ast.Constant) and isinstance(node.value, str):
                    self.assertNotIn("%", node.value, name)


if __name__ == "__main__":
    unittest.main()
