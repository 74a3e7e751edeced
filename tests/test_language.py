"""A part of the rules of LANGUAGE.md that can be read off the text of the package.

Some checks are narrower than the rules (no decorators, no annotations, no bytes at all), as the
package needs none of these; widen them up to the rules where it does.
"""

import ast
import builtins
import pathlib
import re
import unittest

PACKAGE = pathlib.Path(__file__).resolve().parent.parent / "cutrows"
LIBRARY = {
    "heapq": {"heappush", "heappop", "heapify", "heapreplace", "heappushpop"},
    "math": {"gcd", "lcm", "isqrt", "comb", "perm", "factorial"},
    "itertools": {
        "product", "combinations", "permutations", "chain", "accumulate", "pairwise", "islice", "zip_longest",
    },
    "collections": {"defaultdict", "deque"},
}
BUILTINS = set(
    "len range enumerate zip min max sum abs sorted reversed int str bool list tuple dict set isinstance ord repr any "
    "all divmod pow map iter next getattr hasattr setattr type property staticmethod classmethod super Exception "
    "ValueError TypeError KeyError IndexError LookupError ZeroDivisionError ArithmeticError OverflowError RuntimeError "
    "NotImplementedError AttributeError StopIteration NotImplemented".split()
)
# Doctest, which other tests run, leaves its last value there as _.
ALL_BUILTINS = set(dir(builtins)) - {"_"}
DUNDERS = set("__init__ __eq__ __repr__ __str__ __len__ __enter__ __exit__ __call__ __iter__".split())
BARRED = re.compile(
    r"\b(register|mro|elements|open|input|law|version_info|with_traceback|add_note|eval|exec|compile|globals|locals|"
    r"vars|dir|id|gc|os|sys|typing|enum|Enum|Generic|Protocol|ABC|namedtuple|NamedTuple|float|bytes|frozenset|print)\b"
)
STATEMENTS = (ast.Global, ast.AsyncFunctionDef, ast.AsyncFor, ast.AsyncWith, ast.Await, ast.Div, ast.AnnAssign)


def sources():
    for path in sorted(PACKAGE.rglob("*.py")):
        yield path.name, path.read_bytes().decode("ascii")


def trees():
    for name, text in sources():
        yield name, ast.parse(text)


def names_bound(tree):
    for node in ast.walk(tree):
        if isinstance(node, ast.arg):
            yield node.arg
        elif isinstance(node, ast.Name) and isinstance(node.ctx, ast.Store):
            yield node.id
        elif isinstance(node, (ast.FunctionDef, ast.ClassDef)):
            yield node.name
        elif isinstance(node, ast.alias):
            yield node.asname or node.name


class TestLanguage(unittest.TestCase):
    def test_the_folder_holds_modules_only(self):
        found = [path.name for path in PACKAGE.iterdir() if path.name != "__pycache__"]
        self.assertIn("__init__.py", found)
        for name in found:
            self.assertRegex(name, r"^[a-z0-9_]+\.py$")

    def test_characters_and_sizes(self):
        for name, text in sources():
            self.assertLessEqual(text.count("\n"), 399, name)
            for line in text.split("\n"):
                self.assertLessEqual(len(line), 120, (name, line))
                self.assertTrue(all(" " <= sign <= "~" for sign in line), (name, line))

    def test_functions_are_short_and_without_decorators(self):
        for name, tree in trees():
            for node in ast.walk(tree):
                if isinstance(node, ast.FunctionDef):
                    self.assertLessEqual(node.end_lineno - node.lineno + 1, 40, (name, node.name))
                    self.assertEqual(node.decorator_list, [], (name, node.name))

    def test_imports(self):
        for name, tree in trees():
            for node in ast.walk(tree):
                self.assertNotIsInstance(node, ast.Import, name)
                if isinstance(node, ast.ImportFrom):
                    self.assertIn(node, tree.body, name)
                    self.assertEqual(node.level, 0, name)
                    for alias in node.names:
                        self.assert_importable(name, node.module, alias)

    def assert_importable(self, name, module, alias):
        self.assertIsNone(alias.asname, name)
        if module in LIBRARY:
            self.assertIn(alias.name, LIBRARY[module], name)
            return
        self.assertRegex(module, r"^cutrows\.[a-z_]+$")
        tree = ast.parse((PACKAGE / (module.split(".")[1] + ".py")).read_text())
        defined = [node.name for node in tree.body if isinstance(node, (ast.FunctionDef, ast.ClassDef))]
        defined += [node.targets[0].id for node in tree.body if isinstance(node, ast.Assign)]
        self.assertIn(alias.name, defined, (name, module))

    def test_module_level(self):
        for name, tree in trees():
            for node in tree.body:
                docstring = isinstance(node, ast.Expr) and isinstance(node.value, ast.Constant)
                allowed = (ast.ImportFrom, ast.FunctionDef, ast.ClassDef, ast.Assign)
                self.assertTrue(docstring or isinstance(node, allowed), (name, node.lineno))

    def test_names(self):
        for name, tree in trees():
            for bound in names_bound(tree):
                self.assertNotIn(bound, ALL_BUILTINS, name)
                self.assertTrue(not bound.startswith("__") or bound in DUNDERS, (name, bound))
                self.assertIsNone(BARRED.fullmatch(bound), (name, bound))

    def test_no_name_inside_is_that_of_an_import_or_a_class(self):
        for name, tree in trees():
            taken = {alias.name for node in tree.body if isinstance(node, ast.ImportFrom) for alias in node.names}
            taken |= {node.name for node in tree.body if isinstance(node, ast.ClassDef)}
            for node in ast.walk(tree):
                if isinstance(node, ast.FunctionDef):
                    inside = [bound for part in node.body + [node.args] for bound in names_bound(part)]
                    self.assertEqual(taken.intersection(inside), set(), (name, node.name))

    def test_no_two_files_import_from_each_other(self):
        imports = {
            name[:-3]: {node.module.split(".")[-1] for node in tree.body if isinstance(node, ast.ImportFrom)}
            for name, tree in trees()
        }
        while imports:
            free = [name for name, needed in imports.items() if not needed & set(imports)]
            self.assertTrue(free, imports)
            imports = {name: needed for name, needed in imports.items() if name not in free}

    def test_is_stands_beside_none_true_and_false(self):
        for name, tree in trees():
            for node in ast.walk(tree):
                if isinstance(node, ast.Compare) and any(isinstance(op, (ast.Is, ast.IsNot)) for op in node.ops):
                    self.assertIsInstance(node.comparators[0], ast.Constant, (name, node.lineno))

    def test_returns_of_len(self):
        for name, tree in trees():
            for node in ast.walk(tree):
                if isinstance(node, ast.FunctionDef) and node.name == "__len__":
                    self.assertRegex(ast.unparse(node.body[-1]), r"^return len\(.*\)$", name)

    def test_no_sort_of_a_list_in_place(self):
        for name, tree in trees():
            for node in ast.walk(tree):
                self.assertFalse(isinstance(node, ast.Attribute) and node.attr == "sort", name)

    def test_no_percent_sign_in_strings(self):
        for name, tree in trees():
            for node in ast.walk(tree):
                if isinstance(node, ast.Constant) and isinstance(node.value, str):
                    self.assertNotIn("%", node.value, (name, node.lineno))

    def test_builtins(self):
        for name, tree in trees():
            for node in ast.walk(tree):
                if isinstance(node, ast.Name) and node.id in ALL_BUILTINS:
                    self.assertIn(node.id, BUILTINS, (name, node.lineno))

    def test_statements(self):
        for name, tree in trees():
            for node in ast.walk(tree):
                self.assertNotIsInstance(node, STATEMENTS, (name, getattr(node, "lineno", None)))
                if isinstance(node, ast.Constant):
                    self.assertNotIsInstance(node.value, (float, bytes, complex), (name, node.lineno))


if __name__ == "__main__":
    unittest.main()
