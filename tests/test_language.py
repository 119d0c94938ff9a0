"""The rules of the language subset that a program can see, checked for every file of the package."""

import ast
import builtins
import io
import pathlib
import re
import tokenize
import unittest

PACKAGE = pathlib.Path(__file__).resolve().parent.parent / "prefixtable"
LIBRARY = {"heapq": {"heappush", "heappop", "heapify"}, "math": {"gcd", "lcm", "isqrt", "comb", "perm", "factorial"}}
BUILTINS = set("""
len range enumerate zip min max sum abs sorted reversed int str bool list tuple dict set isinstance ord repr any all
divmod super property staticmethod classmethod ValueError TypeError KeyError IndexError LookupError OverflowError
RuntimeError NotImplemented""".split())
METHODS = set("""
append clear copy count endswith extend find get index insert isdigit items join keys ljust lower lstrip
partition pop remove replace reverse rfind rjust rpartition rsplit rstrip setdefault split splitlines startswith strip
update upper values zfill bit_length isascii removeprefix removesuffix rindex isprintable""".split())
SPECIAL = set("""
__init__ __eq__ __repr__ __str__ __len__ __enter__ __exit__ __call__ __iter__ __mul__ __pow__ __invert__
__bool__ __contains__ __getitem__ __setitem__ __and__ __or__ __sub__ __add__""".split())
BARRED_WORDS = """type typing typing_extensions enum Enum IntEnum StrEnum Flag IntFlag Generic Protocol ABC ABCMeta
namedtuple NamedTuple TypedDict TYPE_CHECKING abstractmethod""".split()
BARRED_NAMES = set("""
mro elements open input law version_info with_traceback add_note register eval exec compile dir vars
globals locals type help id exit quit os gc sys getattr setattr hasattr delattr""".split())
ITERATED = {"zip", "enumerate", "reversed", "items", "keys", "values"}
TAKERS = {"list", "tuple", "dict", "sorted", "sum", "any", "all", "enumerate", "zip", "min", "max"}
STATEMENTS = (ast.Assign, ast.AugAssign, ast.If, ast.While, ast.For, ast.Return, ast.Break, ast.Continue, ast.Pass,
              ast.Raise, ast.Assert, ast.Delete, ast.Expr, ast.FunctionDef, ast.ClassDef, ast.ImportFrom, ast.With,
              ast.Try)


def files():
    return sorted(PACKAGE.rglob("*.py"))


def trees():
    return [(path, ast.parse(path.read_text(encoding="utf-8"))) for path in files()]


def every(kind):
    return [(path, node) for path, tree in trees() for node in ast.walk(tree) if isinstance(node, kind)]


def parents(tree):
    return {child: node for node in ast.walk(tree) for child in ast.iter_child_nodes(node)}


def called(node):
    """Return the name of what a call calls, or None."""
    if isinstance(node, ast.Call) and isinstance(node.func, ast.Name):
        return node.func.id
    if isinstance(node, ast.Call) and isinstance(node.func, ast.Attribute):
        return node.func.attr
    return None


class FilesTest(unittest.TestCase):

    def test_folder_holds_plain_python_files_only(self):
        found = [path for path in PACKAGE.rglob("*") if "__pycache__" not in path.parts]
        for path in found:
            if path.is_dir():
                self.assertTrue((path / "__init__.py").is_file(), path)
            else:
                self.assertRegex(path.name, r"^(__init__|[a-z][a-z0-9_]*)\.py$")
                self.assertFalse(path.stem[0] != "_" and hasattr(builtins, path.stem), path)
        self.assertLessEqual(len(files()), 100)

    def test_sizes_and_characters(self):
        for path in files():
            text = path.read_text(encoding="utf-8")
            self.assertLessEqual(len(text.splitlines()), 399, path)
            for line in text.splitlines():
                self.assertLessEqual(len(line), 120, (path, line))
            self.assertTrue(all(" " <= letter <= "~" or letter == "\n" for letter in text), path)
        for path, node in every(ast.FunctionDef):
            self.assertLessEqual(node.end_lineno - node.lineno + 1, 40, (path, node.name))

    def test_barred_words(self):
        barred = re.compile(r"\b(" + "|".join(BARRED_WORDS) + r")\b|dataclass|overload|contextmanager")
        for path in files():
            text = path.read_text(encoding="utf-8")
            for token in tokenize.generate_tokens(io.StringIO(text).readline):
                if token.type not in (tokenize.COMMENT, tokenize.STRING):
                    self.assertIsNone(barred.search(token.string), (path, token))
            self.assertNotRegex(text, r"\(type\)|Meta|metaclass=|_wall|_WallAttr")


class NamesTest(unittest.TestCase):

    def test_imports(self):
        for path, node in every(ast.Import):
            self.fail((path, node.lineno))
        for path, node in every(ast.ImportFrom):
            self.assertEqual(node.level, 0)
            for item in node.names:
                self.assertIsNone(item.asname)
                if node.module in LIBRARY:
                    self.assertIn(item.name, LIBRARY[node.module])
                else:
                    self.assertTrue(node.module.startswith("prefixtable."), (path, node.module))
                    tree = ast.parse((PACKAGE.parent / (node.module.replace(".", "/") + ".py")).read_text())
                    told = [name for row in tree.body for name in bound_by(row)]
                    self.assertIn(item.name, told, path)

    def test_every_import_is_used(self):
        for path, tree in trees():
            used = {node.id for node in ast.walk(tree) if isinstance(node, ast.Name)}
            for node in ast.walk(tree):
                if isinstance(node, ast.ImportFrom):
                    self.assertEqual([item.name for item in node.names if item.name not in used], [], path)

    def test_names_mean_one_thing(self):
        for path, tree in trees():
            top = [name for row in tree.body for name in bound_by(row)]
            top = top + [item.name for row in tree.body if isinstance(row, ast.ImportFrom) for item in row.names]
            self.assertEqual(len(set(top)), len(top), path)
            names = [node for node in ast.walk(tree) if isinstance(node, ast.Name)]
            given = [node.id for node in names if isinstance(node.ctx, ast.Store)]
            given = given + [node.arg for node in ast.walk(tree) if isinstance(node, ast.arg)]
            local = [name for name in given if not name.isupper()]
            for name in local + top:
                self.assertFalse(hasattr(builtins, name), (path, name))
                self.assertNotIn(name, BARRED_NAMES, path)
                self.assertFalse(name.startswith("__"), (path, name))
            self.assertEqual([name for name in local if name in top], [], path)

    def test_builtins(self):
        for path, node in every(ast.Name):
            if hasattr(builtins, node.id):
                self.assertIn(node.id, BUILTINS, (path, node.lineno))

    def test_methods_of_builtin_values(self):
        kinds = (str, list, dict, tuple, set, int, bytes)
        own = {node.name for _, node in every(ast.FunctionDef)}
        for path, node in every(ast.Attribute):
            if any(hasattr(kind, node.attr) for kind in kinds) and node.attr not in own:
                self.assertIn(node.attr, METHODS, (path, node.lineno))

    def test_special_methods_and_decorators(self):
        for path, node in every(ast.FunctionDef):
            if node.name.startswith("__"):
                self.assertIn(node.name, SPECIAL, path)
            for mark in node.decorator_list:
                allowed = ("property", "staticmethod", "classmethod", node.name + ".setter")
                self.assertIn(ast.unparse(mark), allowed, path)
        for path, node in every(ast.ClassDef):
            self.assertEqual(node.decorator_list, [], path)
            rows = [row for row in node.body if isinstance(row, ast.FunctionDef)]
            names = [row.name for row in rows if not any("setter" in ast.unparse(mark) for mark in row.decorator_list)]
            self.assertEqual(len(set(names)), len(names), (path, node.name))

    def test_attributes_are_no_methods(self):
        stored = {node.attr for _, node in every(ast.Attribute) if isinstance(node.ctx, ast.Store)} - {"row_limit"}
        methods = {row.name for _, node in every(ast.ClassDef) for row in node.body if isinstance(row, ast.FunctionDef)}
        self.assertEqual(stored & methods, set())
        self.assertEqual(stored & {"items", "keys", "values", "pop", "update", "append", "sort", "args", "format"}, set())
        read = {node.attr for _, node in every(ast.Attribute) if isinstance(node.ctx, ast.Load)}
        classes = {target.id for _, node in every(ast.ClassDef) for row in node.body if isinstance(row, ast.Assign)
                   for target in row.targets}
        self.assertEqual(read - stored - methods - classes - METHODS - {"setter", "__init__"}, set())

    def test_generators_have_names_of_their_own(self):
        names = [node.name for _, node in every(ast.FunctionDef)]
        for name in generators():
            self.assertEqual(names.count(name), 1, name)


class ExpressionsTest(unittest.TestCase):

    def test_statements(self):
        for path, node in every(ast.stmt):
            self.assertIsInstance(node, STATEMENTS, (path, node.lineno))
        for path, tree in trees():
            for node in tree.body:
                plain = isinstance(node, (ast.ImportFrom, ast.FunctionDef, ast.ClassDef, ast.Assign))
                self.assertTrue(plain or node is tree.body[0] and isinstance(node, ast.Expr), (path, node.lineno))

    def test_values(self):
        for path, node in every((ast.GeneratorExp, ast.Div, ast.Pow, ast.NamedExpr, ast.Await, ast.Set)):
            self.fail((path, getattr(node, "lineno", node)))
        for path, node in every(ast.Constant):
            self.assertNotIsInstance(node.value, (float, complex, bytes), (path, node.lineno))
            if isinstance(node.value, str):
                self.assertNotIn("%", node.value, (path, node.lineno))

    def test_is_stands_beside_none_true_and_false(self):
        for path, node in every(ast.Compare):
            for sign, right in zip(node.ops, node.comparators):
                if isinstance(sign, (ast.Is, ast.IsNot)):
                    self.assertTrue(isinstance(right, ast.Constant) and right.value in (None, True, False), path)

    def test_iterated_at_once(self):
        names = generators()
        for path, tree in trees():
            above = parents(tree)
            for node in ast.walk(tree):
                if called(node) in ITERATED or called(node) in names:
                    place = above[node]
                    fine = isinstance(place, (ast.For, ast.comprehension, ast.YieldFrom)) or called(place) in TAKERS
                    self.assertTrue(fine, (path, node.lineno))
                if called(node) == "set":
                    place = above[node]
                    self.assertTrue(isinstance(place, (ast.Compare, ast.Assign)) or called(place) in ("sorted", "len"),
                                    (path, node.lineno))

    def test_keywords_of_builtins(self):
        allowed = {"sorted": {"key", "reverse"}, "min": {"key", "default"}, "max": {"key", "default"},
                   "sum": {"start"}, "enumerate": {"start"}, "zip": {"strict"}}
        for path, node in every(ast.Call):
            if isinstance(node.func, ast.Name) and node.func.id in BUILTINS:
                told = {word.arg for word in node.keywords}
                self.assertLessEqual(told, allowed.get(node.func.id, set()), (path, node.lineno))

    def test_finally_and_exit_put_back_plainly(self):
        plain = (ast.Name, ast.Attribute)
        blocks = [(path, node.finalbody) for path, node in every(ast.Try)]
        blocks += [(path, node.body) for path, node in every(ast.FunctionDef) if node.name == "__exit__"]
        for path, block in blocks:
            for row in block:
                self.assertIsInstance(row, ast.Assign, path)
                self.assertTrue(all(isinstance(part, plain) for part in row.targets + [row.value]), path)
        for path, node in every(ast.ExceptHandler):
            self.fail((path, node.lineno))

    def test_raise_creates_its_error(self):
        for path, node in every(ast.Raise):
            self.assertTrue(isinstance(node.exc, ast.Call) and isinstance(node.exc.func, ast.Name), (path, node.lineno))


def bound_by(row):
    """Return the names that a statement at module level binds."""
    if isinstance(row, (ast.FunctionDef, ast.ClassDef)):
        return [row.name]
    if isinstance(row, ast.Assign):
        return [target.id for target in row.targets]
    return []


def generators():
    """Return the names of the generators of the package."""
    return {node.name for _, node in every(ast.FunctionDef)
            if any(isinstance(part, (ast.Yield, ast.YieldFrom)) for part in ast.walk(node))}


if __name__ == "__main__":
    unittest.main()
