"""Rules of the language subset that can be seen in the text of the package."""

import ast
import builtins
import os
import re
import unittest
import warnings

TOP = os.path.join(os.path.dirname(os.path.dirname(os.path.abspath(__file__))), "sidesigns")
BUILTINS = set("""len range enumerate zip min max sum abs sorted reversed int str bool bytes list tuple dict set frozenset
isinstance ord repr any all divmod Exception ValueError TypeError KeyError IndexError LookupError ZeroDivisionError
ArithmeticError OverflowError RuntimeError NotImplementedError NotImplemented iter property staticmethod classmethod super
""".split())
GENERATORS = {"all_rows", "paintings", "own_changes", "convex_lots", "free_lots", "all_ways", "right_signs",
              "sign_tables"}
LIBRARY = {"math": {"gcd", "lcm", "isqrt", "comb", "perm", "factorial"}}
DUNDERS = set("""__init__ __eq__ __str__ __repr__ __len__ __iter__ __contains__ __getitem__ __or__ __and__ __sub__ __add__
__invert__""".split())
UNUSED = set("register mro elements open input law version_info with_traceback add_note format format_map".split())
WORDS = re.compile(r"\b(type|typing|typing_extensions|enum|Enum|IntEnum|StrEnum|Flag|IntFlag|Generic|Protocol|ABC|ABCMeta|"
                   r"namedtuple|NamedTuple|TypedDict|TYPE_CHECKING|abstractmethod)\b|dataclass|overload|contextmanager")
BARRED_NAMES = re.compile(r"_(wall|WallAttr|pe_|dcw_|enum_|cm_|twin_re_|lay_|law_|stub_|sre)|"
                          r"_(cold|tuplegetter|outside|record|written_out|member_names)[0-9_]*$")
# Names that values of Python's own have as methods.
GIVEN = {name for value in (0, "", b"", [], {}, (), set()) for name in dir(value)}
BARRED = (ast.AsyncFunctionDef, ast.AsyncFor, ast.AsyncWith, ast.Await, ast.Global, ast.Div)


def files():
    found = []
    for folder, _, names in sorted(os.walk(TOP)):
        if "__pycache__" not in folder:
            found.extend(os.path.join(folder, name) for name in sorted(names))
    return found


def texts():
    for path in files():
        with open(path, encoding="utf-8") as file:
            yield os.path.relpath(path, TOP), file.read()


def trees():
    for path, text in texts():
        yield path, ast.parse(text)


def nodes(*kinds):
    for path, tree in trees():
        for node in ast.walk(tree):
            if isinstance(node, kinds):
                yield path, node


def bound_names(tree):
    for node in ast.walk(tree):
        if isinstance(node, (ast.FunctionDef, ast.ClassDef)):
            yield node.name
        elif isinstance(node, ast.arg):
            yield node.arg
        elif isinstance(node, ast.Name) and isinstance(node.ctx, ast.Store):
            yield node.id


def is_plain(node):
    """Whether a value is a constant, or a tuple or a dict of such."""
    if isinstance(node, ast.Dict):
        return all(is_plain(one) and not isinstance(one, ast.Dict) for one in node.keys + node.values)
    if isinstance(node, ast.Tuple):
        return all(is_plain(one) and not isinstance(one, ast.Dict) for one in node.elts)
    if isinstance(node, ast.UnaryOp):
        return isinstance(node.op, ast.USub) and is_plain(node.operand)
    return isinstance(node, ast.Constant)


class TextTest(unittest.TestCase):
    def test_files(self):
        paths = [os.path.relpath(path, TOP) for path in files()]
        self.assertIn("__init__.py", paths)
        self.assertLessEqual(len(paths), 100)
        for path in paths:
            self.assertRegex(path, r"^([a-z][a-z0-9_]*/)*([a-z][a-z0-9_]*|__init__)\.py$")
            self.assertIn(os.path.join(os.path.dirname(path), "__init__.py"), paths)
            self.assertNotIn(os.path.splitext(os.path.basename(path))[0], dir(builtins))

    def test_sizes_and_characters(self):
        for path, text in texts():
            lines = text.split("\n")
            self.assertLessEqual(len(lines), 400, path)
            self.assertLessEqual(max(len(line) for line in lines), 120, path)
            self.assertRegex(text, r"^[ -~\n]*$", path)
        for path, node in nodes(ast.FunctionDef):
            self.assertLessEqual(node.end_lineno - node.lineno + 1, 40, (path, node.name))

    def test_no_warning(self):
        with warnings.catch_warnings():
            warnings.simplefilter("error")
            for path, text in texts():
                compile(text, path, "exec")

    def test_strings(self):
        for path, node in nodes(ast.Constant):
            if isinstance(node.value, str):
                self.assertNotIn("%", node.value, path)
                self.assertFalse(node.value.endswith(("._", ".__")), path)
                self.assertIsNone(WORDS.search(node.value) if "\n" not in node.value and " " not in node.value else None)


class TreeTest(unittest.TestCase):
    def test_imports(self):
        for path, tree in trees():
            names = []
            for node in ast.walk(tree):
                self.assertNotIsInstance(node, ast.Import, path)
                if isinstance(node, ast.ImportFrom):
                    self.assertEqual(node.level, 0)
                    self.assertIn(node, tree.body)
                    self.assertTrue(all(name.asname is None and name.name != "*" for name in node.names))
                    names.extend(name.name for name in node.names)
                    if node.module in LIBRARY:
                        self.assertLessEqual({name.name for name in node.names}, LIBRARY[node.module])
                    else:
                        self.assertTrue(node.module.startswith("sidesigns."), path)
                        self.check_defined_there(node)
            self.assertEqual(len(names), len(set(names)), path)
            self.assertFalse(set(names) & set(bound_names(tree)), path)

    def check_defined_there(self, node):
        with open(os.path.join(TOP, *node.module.split(".")[1:]) + ".py", encoding="utf-8") as file:
            body = ast.parse(file.read()).body
        names = {item.name for item in body if isinstance(item, (ast.FunctionDef, ast.ClassDef))}
        names |= {item.targets[0].id for item in body if isinstance(item, ast.Assign)}
        for name in node.names:
            self.assertIn(name.name, names, node.module)

    def test_imports_are_used_and_go_one_way(self):
        needed = {}
        for path, tree in trees():
            read = {node.id for node in ast.walk(tree) if isinstance(node, ast.Name)}
            needed[path] = set()
            for node in ast.walk(tree):
                if isinstance(node, ast.ImportFrom):
                    self.assertLessEqual({name.name for name in node.names}, read, path)
                    needed[path].add("/".join(node.module.split(".")[1:]) + ".py")
        while needed:
            free = [path for path in needed if not needed[path] & set(needed)]
            self.assertTrue(free, needed)
            for path in free:
                del needed[path]

    def test_module_level(self):
        for path, tree in trees():
            for node in tree.body:
                plain = isinstance(node, ast.Assign) and len(node.targets) == 1 and is_plain(node.value)
                docstring = isinstance(node, ast.Expr) and isinstance(node.value, ast.Constant)
                self.assertTrue(plain or docstring or isinstance(node, (ast.ImportFrom, ast.FunctionDef, ast.ClassDef)),
                                (path, node.lineno))

    def test_kinds_of_statements(self):
        for path, node in nodes(*BARRED):
            self.fail((path, node.__class__.__name__))
        # Where a class has __eq__, these take a list.
        for path, node in nodes(ast.Call):
            if isinstance(node.func, ast.Name) and node.func.id in {"any", "all", "min", "max", "sum", "sorted"}:
                self.assertFalse(any(isinstance(one, ast.GeneratorExp) for one in node.args), (path, node.lineno))

    def test_decorators_and_annotations(self):
        for path, node in nodes(ast.FunctionDef, ast.ClassDef):
            names = [one.id for one in node.decorator_list]
            self.assertIn(names, ([], ["property"], ["classmethod"], ["staticmethod"]), path)
            if isinstance(node, ast.FunctionDef):
                self.assertIsNone(node.returns)
                self.assertTrue(all(one.annotation is None for one in node.args.args + node.args.kwonlyargs))

    def test_names(self):
        given = set(dir(builtins))
        for path, tree in trees():
            defined = set(bound_names(tree))
            self.assertFalse(defined & given, path)
            for name in defined:
                self.assertTrue(name in DUNDERS or re.fullmatch(r"_?[A-Za-z][A-Za-z0-9_]*|_", name), (path, name))
                self.assertIsNone(BARRED_NAMES.match(name), (path, name))
                self.assertNotIn(name, UNUSED, path)
            imported = {name.name for node in ast.walk(tree) if isinstance(node, ast.ImportFrom) for name in node.names}
            for node in ast.walk(tree):
                if isinstance(node, ast.Name) and node.id in given:
                    self.assertIn(node.id, BUILTINS - imported, path)
                if isinstance(node, ast.Attribute):
                    self.assertFalse(node.attr.startswith("__") and node.attr != "__init__", path)
                    self.assertNotIn(node.attr, UNUSED, path)
                    self.assertIsNone(WORDS.search(node.attr), path)

    def test_powers_and_identity(self):
        for path, node in nodes(ast.BinOp):
            if isinstance(node.op, ast.Pow):
                self.assertIsInstance(node.right, ast.Constant, path)
        for path, node in nodes(ast.Compare):
            for op, other in zip(node.ops, node.comparators):
                if isinstance(op, (ast.Is, ast.IsNot)):
                    self.assertIsInstance(other, ast.Constant, path)

    def test_augmented_assignments(self):
        # What operators and properties call adds to nothing but plain numbers.
        for path, node in nodes(ast.AugAssign):
            self.assertIsInstance(node.value, ast.Constant, (path, node.lineno))

    def test_iterated_at_once(self):
        words = {"zip", "enumerate", "range", "reversed"}
        for path, tree in trees():
            allowed = set()
            for node in ast.walk(tree):
                if isinstance(node, (ast.For, ast.comprehension)):
                    allowed.add(node.iter)
                if isinstance(node, ast.Call) and isinstance(node.func, ast.Name) and node.args:
                    if node.func.id in {"list", "tuple", "dict", "sorted", "sum", "any", "all", "enumerate", "zip"}:
                        allowed.add(node.args[0])
            for node in ast.walk(tree):
                if isinstance(node, ast.Call) and isinstance(node.func, ast.Name) and node.func.id in words | GENERATORS:
                    self.assertIn(node, allowed, (path, node.lineno))
                if isinstance(node, ast.Call) and isinstance(node.func, ast.Attribute):
                    if node.func.attr in {"items", "keys", "values"}:
                        self.assertIn(node, allowed, (path, node.lineno))

    def test_classes(self):
        for path, node in nodes(ast.ClassDef):
            for method in node.body:
                if isinstance(method, ast.FunctionDef) and method.name.startswith("__"):
                    self.assertIn(method.name, DUNDERS, path)
    def test_methods_and_attributes(self):
        properties, stored = set(), set()
        for path, node in nodes(ast.ClassDef):
            methods = {one.name for one in node.body if isinstance(one, ast.FunctionDef)}
            own = {one.attr for one in ast.walk(node) if isinstance(one, ast.Attribute) and isinstance(one.ctx, ast.Store)}
            self.assertFalse(methods & own, path)
            self.assertFalse(methods & GIVEN - DUNDERS, path)
            properties |= {one.name for one in node.body if isinstance(one, ast.FunctionDef) and one.decorator_list}
            stored |= own
        self.assertFalse((properties | GIVEN) & stored - {"index"})

    def test_double_underscore_methods(self):
        """L28: the returns of these, and the last statement."""
        for path, node in nodes(ast.FunctionDef):
            if node.name in ("__len__", "__str__"):
                self.assertIsInstance(node.body[-1], ast.Return, path)
                told = node.body[-1].value
                if node.name == "__len__":
                    self.assertEqual(told.func.id, "len")
                elif not isinstance(told, ast.JoinedStr):
                    self.assertEqual((told.func.attr, told.func.value.__class__), ("join", ast.Constant))

    def test_finally(self):
        """L6: only names and attributes are assigned there."""
        for path, node in nodes(ast.Try):
            for one in node.finalbody:
                self.assertIsInstance(one, ast.Assign)
                for part in ast.walk(one):
                    self.assertIsInstance(part, (ast.Assign, ast.Tuple, ast.Name, ast.Attribute, ast.Load, ast.Store), path)

    def test_errors(self):
        for path, node in nodes(ast.Raise):
            self.assertIsInstance(node.exc, ast.Call, path)
            self.assertRegex(node.exc.func.id, r"^[A-Z]", path)


if __name__ == "__main__":
    unittest.main()
