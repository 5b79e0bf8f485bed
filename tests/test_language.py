"""What of ../shared/LANGUAGE.md can be seen from the code, checked over all files of the package."""

import ast
import builtins
import re
import unittest
from pathlib import Path

PACKAGE = Path(__file__).resolve().parent.parent / "treeworks"
FILES = sorted(PACKAGE.rglob("*.py"))

BUILTINS = set(
    "len range enumerate zip min max sum abs sorted reversed int str bool list tuple dict set isinstance ord repr any "
    "all divmod iter next NotImplemented ValueError TypeError KeyError property classmethod staticmethod".split()
)
DUNDERS = set(
    "__init__ __eq__ __repr__ __str__ __len__ __enter__ __exit__ __call__ __iter__ __lt__ __le__ __gt__ __ge__ __ne__ "
    "__add__ __sub__ __mul__ __and__ __or__ __xor__ __radd__ __rsub__ __rmul__ __invert__ __bool__ __contains__ "
    "__getitem__ __setitem__".split()
)
METHODS = set(
    "append clear copy count endswith extend find get index insert isalnum isalpha isdigit islower isspace isupper "
    "items join keys ljust lower lstrip partition pop remove replace reverse rfind rjust rpartition rsplit rstrip "
    "setdefault split splitlines startswith strip update upper values zfill bit_length add discard removeprefix".split()
)
STATEMENTS = (
    ast.FunctionDef, ast.ClassDef, ast.Return, ast.Delete, ast.Assign, ast.AugAssign, ast.For, ast.While, ast.If,
    ast.Raise, ast.Try, ast.Assert, ast.ImportFrom, ast.Expr, ast.Pass, ast.Break, ast.Continue, ast.With,
)
WORDS = re.compile(
    r"\b(type|typing|enum|Enum|Generic|Protocol|ABC|NamedTuple|namedtuple|open|input|register|mro|elements|law|"
    r"eval|exec|globals|locals|vars|dir|id|getattr|setattr|hasattr|os|sys|super|compile|exit)\b"
)


def trees():
    return [(path, ast.parse(path.read_text())) for path in FILES]


def where(path, node):
    return f"{path.name}:{node.lineno}"


def nodes(kind):
    return [(path, node) for path, tree in trees() for node in ast.walk(tree) if isinstance(node, kind)]


def called(node):
    return node.func.id if isinstance(node.func, ast.Name) else ""


class FilesTest(unittest.TestCase):
    def test_only_plain_files(self):
        for path in PACKAGE.rglob("*"):
            if "__pycache__" not in path.parts:
                self.assertTrue(path.is_dir() or re.fullmatch(r"[a-z0-9_]+\.py", path.name), path)

    def test_size_and_characters(self):
        for path in FILES:
            text = path.read_text()
            self.assertTrue(all(" " <= sign <= "~" or sign == "\n" for sign in text), path)
            lines = text.split("\n")
            self.assertLessEqual(len(lines) - 1, 399, path)
            self.assertLessEqual(max(map(len, lines)), 120, path)

    def test_functions_are_short(self):
        for path, node in nodes(ast.FunctionDef):
            self.assertLessEqual(node.end_lineno - node.lineno + 1, 40, where(path, node))


class StatementsTest(unittest.TestCase):
    def test_only_allowed_statements(self):
        for path, node in nodes(ast.stmt):
            self.assertIsInstance(node, STATEMENTS, where(path, node))

    def test_module_level(self):
        for path, tree in trees():
            for node in tree.body:
                plain = isinstance(node, (ast.ImportFrom, ast.FunctionDef, ast.ClassDef, ast.Assign))
                docstring = isinstance(node, ast.Expr) and isinstance(node.value, ast.Constant)
                self.assertTrue(plain or docstring, where(path, node))

    def test_imports_name_the_defining_file_without_cycles(self):
        edges = {}
        for path, tree in trees():
            edges[path.stem] = []
            for node in ast.walk(tree):
                if isinstance(node, ast.ImportFrom):
                    self.assertRegex(node.module, r"\Atreeworks\.[a-z]+\Z", where(path, node))
                    target = PACKAGE / (node.module.split(".")[1] + ".py")
                    edges[path.stem].append(target.stem)
                    for name in node.names:
                        self.assertIn(name.name, defined(target), where(path, node))
                        self.assertIsNone(name.asname)
        done = set()
        while len(done) < len(edges):
            ready = [file for file in edges if file not in done and set(edges[file]) <= done]
            self.assertTrue(ready, "files import from each other")
            done.update(ready)

    def test_raise_creates_its_error(self):
        for path, node in nodes(ast.Raise):
            fits = node.exc is None or isinstance(node.exc, ast.Call) and isinstance(node.exc.func, ast.Name)
            self.assertTrue(fits, where(path, node))

    def test_handlers_name_own_errors(self):
        for path, node in nodes(ast.ExceptHandler):
            named = node.type.elts if isinstance(node.type, ast.Tuple) else [node.type]
            for name in named:
                self.assertIsInstance(name, ast.Name, where(path, node))
                self.assertNotIn(name.id, dir(builtins), where(path, node))

    def test_decorators(self):
        for path, node in nodes((ast.FunctionDef, ast.ClassDef)):
            for decorator in node.decorator_list:
                name = decorator.id if isinstance(decorator, ast.Name) else decorator.attr
                self.assertIn(name, ("property", "classmethod", "staticmethod", "setter"), where(path, node))


class ExpressionsTest(unittest.TestCase):
    def test_nothing_that_is_not_used_here(self):
        kinds = (ast.GeneratorExp, ast.Lambda, ast.Set, ast.SetComp, ast.Await, ast.NamedExpr, ast.Div, ast.Mod,
                 ast.Global, ast.Nonlocal, ast.AsyncFor)
        self.assertEqual([where(path, node) for path, node in nodes(kinds) if hasattr(node, "lineno")], [])
        self.assertEqual([path for path, node in nodes((ast.Div, ast.Mod))], [])

    def test_constants(self):
        for path, node in nodes(ast.Constant):
            self.assertNotIsInstance(node.value, (float, complex, bytes), where(path, node))
            if isinstance(node.value, str):
                self.assertNotIn("%", node.value, where(path, node))

    def test_is_only_with_none_true_false(self):
        for path, node in nodes(ast.Compare):
            if any(isinstance(sign, (ast.Is, ast.IsNot)) for sign in node.ops):
                constants = [side for side in [node.left, *node.comparators] if isinstance(side, ast.Constant)]
                self.assertTrue(any(side.value in (None, True, False) for side in constants), where(path, node))

    def test_words(self):
        for path, tree in trees():
            for node in ast.walk(tree):
                for name in names_in(node):
                    self.assertIsNone(WORDS.fullmatch(name), f"{where(path, node)} {name}")

    def test_ordering_calls_take_plain_strings(self):
        # Trees have an order and tables only an equality, so nothing but numbers and strings is put in order.
        for path, node in nodes(ast.Call):
            self.assertNotIn(called(node), ("min", "max", "map"), where(path, node))
            if called(node) == "sorted":
                part = node.args[0]
                self.assertIsInstance(part, ast.ListComp, where(path, node))
                self.assertIn(called(part.elt), ("str", "int"), where(path, node))

    def test_reversed_takes_lists_and_ranges(self):
        for path, node in nodes(ast.Call):
            if called(node) == "reversed":
                self.assertIn(called(node.args[0]), ("list", "range", "sorted", "tuple"), where(path, node))

    def test_iterators_are_iterated_at_once(self):
        for path, node in nodes(ast.Assign):
            if isinstance(node.value, ast.Call):
                self.assertNotIn(called(node.value), ("zip", "enumerate", "reversed", "iter"), where(path, node))

    def test_no_star_in_an_index(self):
        for path, node in nodes(ast.Subscript):
            stars = [part for part in ast.walk(node.slice) if isinstance(part, ast.Starred)]
            self.assertEqual(stars, [], where(path, node))

    def test_stars_stand_before_names(self):
        for path, node in nodes(ast.Call):
            for part in node.args:
                if isinstance(part, ast.Starred):
                    self.assertIsInstance(part.value, (ast.Name, ast.Attribute), where(path, node))


class NamesTest(unittest.TestCase):
    def test_no_own_name_is_that_of_a_builtin_value(self):
        taken = {name for value in ("", 0, [], {}, set(), b"") for name in dir(value)} - METHODS
        own = [(path, part) for path, node in nodes(ast.ClassDef) for part in node.body if isinstance(part, ast.FunctionDef)]
        for path, part in own:
            self.assertTrue(part.name.startswith("__") or part.name not in taken, where(path, part))
        for path, node in nodes(ast.Attribute):
            if isinstance(node.ctx, ast.Store):
                free = node.attr in ("count", "index", "title")
                self.assertTrue(free or node.attr not in taken | METHODS, where(path, node))

    def test_builtins(self):
        for path, node in nodes(ast.Name):
            if isinstance(node.ctx, ast.Load) and hasattr(builtins, node.id):
                self.assertIn(node.id, BUILTINS, where(path, node))
            if not isinstance(node.ctx, ast.Load):
                self.assertFalse(hasattr(builtins, node.id), where(path, node))

    def test_parameters_and_functions_are_no_builtins(self):
        for path, node in nodes(ast.arg):
            self.assertFalse(hasattr(builtins, node.arg), where(path, node))

    def test_double_underscores(self):
        for path, node in nodes(ast.FunctionDef):
            if node.name.startswith("__"):
                self.assertIn(node.name, DUNDERS, where(path, node))

    def test_called_methods_are_known(self):
        own = {node.name for _, node in nodes(ast.FunctionDef)}
        for path, node in nodes(ast.Call):
            if isinstance(node.func, ast.Attribute):
                self.assertIn(node.func.attr, own | METHODS, where(path, node))

    def test_no_local_name_is_that_of_an_import_or_a_class(self):
        for path, tree in trees():
            taken = {name.name for node in ast.walk(tree) if isinstance(node, ast.ImportFrom) for name in node.names}
            taken |= {node.name for node in ast.walk(tree) if isinstance(node, ast.ClassDef)}
            for node in ast.walk(tree):
                if isinstance(node, ast.Name) and isinstance(node.ctx, ast.Store):
                    self.assertNotIn(node.id, taken, where(path, node))
                if isinstance(node, ast.arg):
                    self.assertNotIn(node.arg, taken, where(path, node))

    def test_no_name_is_a_method_and_an_attribute(self):
        methods, generators = {}, set()
        for path, node in nodes(ast.ClassDef):
            for part in node.body:
                # Other classes may store an attribute with the name of a property.
                if isinstance(part, ast.FunctionDef) and not part.decorator_list:
                    methods[part.name] = where(path, part)
        for path, node in nodes(ast.FunctionDef):
            if any(isinstance(part, (ast.Yield, ast.YieldFrom)) for part in ast.walk(node)):
                self.assertNotIn(node.name, generators, where(path, node))
                generators.add(node.name)
        for path, node in nodes(ast.Attribute):
            if isinstance(node.ctx, ast.Store):
                self.assertNotIn(node.attr, methods, where(path, node))

    def test_properties(self):
        methods, getters, setters = set(), set(), set()
        for path, node in nodes(ast.ClassDef):
            for part in node.body:
                if isinstance(part, ast.FunctionDef):
                    kinds = [ast.unparse(decorator) for decorator in part.decorator_list]
                    (getters if "property" in kinds else setters if kinds and kinds[0].endswith(".setter") else methods).add(part.name)
        self.assertEqual(getters & methods, set())
        self.assertLessEqual(setters, getters)
        for path, node in nodes(ast.Attribute):
            if isinstance(node.ctx, ast.Store) and node.attr in getters:
                self.assertIn(node.attr, setters, where(path, node))

    def test_no_method_is_read_off_a_class(self):
        classes = {node.name: {part.name for part in node.body if isinstance(part, ast.FunctionDef) and not part.decorator_list}
                   for _, node in nodes(ast.ClassDef)}
        for path, node in nodes(ast.Attribute):
            if isinstance(node.value, ast.Name) and node.value.id in classes:
                self.assertNotIn(node.attr, classes[node.value.id], where(path, node))


def defined(path):
    names = []
    for node in ast.parse(path.read_text()).body:
        if isinstance(node, (ast.FunctionDef, ast.ClassDef)):
            names.append(node.name)
        if isinstance(node, ast.Assign):
            names.extend(target.id for target in node.targets)
    return names


def names_in(node):
    if isinstance(node, ast.Name):
        return [node.id]
    if isinstance(node, (ast.FunctionDef, ast.ClassDef)):
        return [node.name]
    if isinstance(node, ast.Attribute):
        return [node.attr]
    return [node.arg] if isinstance(node, ast.arg) else []


if __name__ == "__main__":
    unittest.main()
