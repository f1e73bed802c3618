"""What operators and properties may do, and what they call: they change nothing but what they made."""

import ast
import unittest

from test_interface import CLASS_METHODS, FUNCTIONS, METHODS, OPERATORS, PROPERTIES
from test_language import GENERATORS, trees

CHANGING = set("append clear extend insert pop remove reverse setdefault update sort add discard".split())
MAKERS = {"list", "dict", "set", "sorted"}
SIGNS = set("__eq__ __len__ __str__ __iter__ __contains__ __getitem__ __or__ __and__ __sub__ __add__ __invert__".split())


def functions():
    """All functions and methods: (class or None, definition)."""
    for _, tree in trees():
        for node in tree.body:
            if isinstance(node, ast.FunctionDef):
                yield None, node
            elif isinstance(node, ast.ClassDef):
                for method in node.body:
                    if isinstance(method, ast.FunctionDef):
                        yield node.name, method


ALL = list(functions())
CLASSES = {node.name for _, tree in trees() for node in tree.body if isinstance(node, ast.ClassDef)}


def is_property(node):
    return any(isinstance(one, ast.Name) and one.id == "property" for one in node.decorator_list)


def reached():
    """The operators and properties, and all that they can call."""
    found = [(cls, node) for cls, node in ALL if node.name in SIGNS or is_property(node)]
    for _, node in found:
        names = {one.func.id for one in ast.walk(node) if isinstance(one, ast.Call) and isinstance(one.func, ast.Name)}
        methods = {one.attr for one in ast.walk(node) if isinstance(one, ast.Attribute)}
        for cls, other in ALL:
            is_called = cls is None and other.name in names or cls is not None and other.name in methods
            is_made = other.name == "__init__" and cls in names
            if (is_called or is_made) and (cls, other) not in found:
                found.append((cls, other))
    return found


def values_of(node, name):
    """All values that a local name is assigned; None for what is no plain assignment."""
    values = [None] if name in {one.arg for one in node.args.args + node.args.kwonlyargs} else []
    for one in ast.walk(node):
        if isinstance(one, ast.Assign):
            for target in one.targets:
                if isinstance(target, ast.Name) and target.id == name:
                    values.append(one.value)
                elif isinstance(target, ast.Tuple) and name in {part.id for part in target.elts if isinstance(part, ast.Name)}:
                    values.append(None)
        elif isinstance(one, (ast.For, ast.comprehension)):
            if name in {part.id for part in ast.walk(one.target) if isinstance(part, ast.Name)}:
                values.append(None)
    return values


def is_made_here(value):
    if isinstance(value, (ast.List, ast.Dict, ast.ListComp, ast.DictComp, ast.Set, ast.SetComp)):
        return True
    if isinstance(value, ast.BinOp) and isinstance(value.op, (ast.Add, ast.Mult)):
        return is_made_here(value.left) and (isinstance(value.op, ast.Mult) or is_made_here(value.right))
    if isinstance(value, ast.Subscript):
        return isinstance(value.slice, ast.Slice)
    return isinstance(value, ast.Call) and isinstance(value.func, ast.Name) and value.func.id in MAKERS


def is_new_object(value):
    return isinstance(value, ast.Call) and isinstance(value.func, ast.Name) and value.func.id in CLASSES


class OperatorsTest(unittest.TestCase):
    def check_made(self, node, holder, test):
        self.assertIsInstance(holder, ast.Name, (node.name, holder.lineno))
        values = values_of(node, holder.id)
        self.assertTrue(values and all(value is not None and test(value) for value in values), (node.name, holder.id))

    def test_what_is_changed(self):
        found = reached()
        self.assertGreater(len(found), 60)
        for _, node in found:
            yields = any(isinstance(one, (ast.Yield, ast.YieldFrom)) for one in ast.walk(node))
            for one in ast.walk(node):
                if isinstance(one, ast.AugAssign):
                    self.assertIsInstance(one.target, ast.Name, node.name)
                    self.assertIsInstance(one.value, ast.Constant, node.name)
                elif isinstance(one, (ast.Subscript, ast.Attribute)) and not isinstance(one.ctx, ast.Load):
                    self.assertFalse(yields, node.name)
                    self.assertIsInstance(one.ctx, ast.Store)
                    if isinstance(one, ast.Subscript):
                        self.check_made(node, one.value, is_made_here)
                    elif node.name != "__init__":
                        self.check_made(node, one.value, is_new_object)
                    else:
                        self.assertEqual(one.value.id, "self")
                elif isinstance(one, ast.Call) and isinstance(one.func, ast.Attribute) and one.func.attr in CHANGING:
                    self.assertFalse(yields, node.name)
                    self.check_made(node, one.func.value, is_made_here)

    def test_nothing_passed_is_called(self):
        for _, node in reached():
            own = {one.arg for one in node.args.args + node.args.kwonlyargs}
            for one in ast.walk(node):
                if isinstance(one, ast.Call) and isinstance(one.func, ast.Name):
                    if not (one.func.id == "cls" and node.decorator_list):
                        self.assertNotIn(one.func.id, own, node.name)
                self.assertNotIsInstance(one, ast.Lambda, node.name)


class GeneratorsTest(unittest.TestCase):
    def test_all_are_known(self):
        found = {node.name for _, node in ALL if any(isinstance(one, (ast.Yield, ast.YieldFrom)) for one in ast.walk(node))}
        self.assertEqual(found, GENERATORS)
        names = [node.name for _, node in ALL]
        for name in GENERATORS:
            self.assertEqual(names.count(name), 1)

    def test_they_are_passed_plain_values(self):
        for _, tree in trees():
            for node in ast.walk(tree):
                if isinstance(node, ast.Call) and isinstance(node.func, ast.Name) and node.func.id in GENERATORS:
                    for one in node.args + [keyword.value for keyword in node.keywords]:
                        plain = isinstance(one, (ast.Name, ast.Attribute, ast.Constant))
                        self.assertTrue(plain or isinstance(one, ast.Tuple) and not one.elts, ast.dump(one))


class LoopsTest(unittest.TestCase):
    def test_what_is_iterated_over_is_not_changed(self):
        """L23, as far as it shows: by the names that stand in the head of a loop."""
        for _, node in ALL:
            for loop in ast.walk(node):
                if isinstance(loop, ast.For):
                    heads = {one.id for one in ast.walk(loop.iter) if isinstance(one, ast.Name)}
                    for one in [one for row in loop.body for one in ast.walk(row)]:
                        holder = None
                        if isinstance(one, (ast.Subscript, ast.Attribute)) and not isinstance(one.ctx, ast.Load):
                            holder = one.value
                        elif isinstance(one, ast.Call) and isinstance(one.func, ast.Attribute) and one.func.attr in CHANGING:
                            holder = one.func.value
                        names = {part.id for part in ast.walk(holder) if isinstance(part, ast.Name)} if holder else set()
                        self.assertFalse(names & heads, (node.name, loop.lineno, names & heads))

    def test_plain_names_of_locals(self):
        """No local name is that of a function of its own file that is called there."""
        for path, tree in trees():
            own = {node.name for node in tree.body if isinstance(node, ast.FunctionDef)}
            for node in ast.walk(tree):
                if isinstance(node, ast.Name) and isinstance(node.ctx, ast.Store):
                    self.assertNotIn(node.id, own, path)
                if isinstance(node, ast.arg):
                    self.assertNotIn(node.arg, own, path)

    def test_no_comprehension_reuses_a_name_of_one_around_it(self):
        for _, node in ALL:
            self.check_names(node, node, set())

    def check_names(self, function, node, around):
        kinds = (ast.ListComp, ast.DictComp, ast.SetComp, ast.GeneratorExp)
        inner = around
        if isinstance(node, kinds):
            own = {part.id for one in node.generators for part in ast.walk(one.target) if isinstance(part, ast.Name)}
            self.assertFalse(own & around, (function.name, own & around))
            inner = around | own
        for child in ast.iter_child_nodes(node):
            self.check_names(function, child, inner)

    def test_no_inner_comprehension_reuses_a_name_of_its_function(self):
        kinds = (ast.ListComp, ast.DictComp, ast.SetComp, ast.GeneratorExp)
        for _, node in ALL:
            found = [one for one in ast.walk(node) if isinstance(one, kinds)]
            within = {part for one in found for part in ast.walk(one)}
            assigned = {one.id for one in ast.walk(node) if isinstance(one, ast.Name) and isinstance(one.ctx, ast.Store)
                        and one not in within}
            for inner in [part for one in found for part in ast.walk(one) if part is not one and isinstance(part, kinds)]:
                own = {part.id for one in inner.generators for part in ast.walk(one.target) if isinstance(part, ast.Name)}
                self.assertFalse(own & assigned, node.name)

    def test_every_function_is_used_or_of_the_interface(self):
        told = {name for names in FUNCTIONS.values() for name in names}
        told |= {name for names in (*METHODS.values(), *PROPERTIES.values(), *OPERATORS.values()) for name in names}
        told |= {name for names in CLASS_METHODS.values() for name in names}
        read = {node.id for _, tree in trees() for node in ast.walk(tree) if isinstance(node, ast.Name)}
        read |= {node.attr for _, tree in trees() for node in ast.walk(tree) if isinstance(node, ast.Attribute)}
        self.assertEqual({node.name for _, node in ALL} - told - read - {"__init__"}, set())

    def test_what_is_reversed(self):
        for _, node in ALL:
            for one in ast.walk(node):
                if isinstance(one, ast.Call) and isinstance(one.func, ast.Name) and one.func.id == "reversed":
                    self.assertIn(one.args[0].func.id, ("list", "tuple", "sorted", "range"))

    def test_sets_stand_where_they_are_used(self):
        for _, tree in trees():
            allowed = [one.args[0] for one in ast.walk(tree) if isinstance(one, ast.Call) and one.args
                       and isinstance(one.func, ast.Name) and one.func.id in ("len", "sorted")]
            for one in ast.walk(tree):
                made = isinstance(one, ast.Call) and isinstance(one.func, ast.Name) and one.func.id in ("set", "frozenset")
                if made or isinstance(one, (ast.Set, ast.SetComp)):
                    self.assertIn(one, allowed)


if __name__ == "__main__":
    unittest.main()
