"""The package keeps to its subset of Python: where statements, names and values may stand, as far as a test can say."""

import ast
import builtins
import re
import unittest

from keptabroad import errors
from tests.test_language import FILES, METHODS, trees

PLAIN = (ast.Constant, ast.Tuple, ast.List, ast.Dict, ast.Load, ast.UnaryOp, ast.USub)
ITERATED = {"zip", "enumerate", "reversed", "range", "items", "keys", "values"}
ITERATORS = {"list", "tuple", "dict", "sorted", "sum", "any", "all", "enumerate", "zip", "min", "max"}
KEYWORDS = {"sorted": {"key", "reverse"}, "min": {"key", "default"}, "max": {"key", "default"}, "sum": {"start"},
            "enumerate": {"start"}}
CHANGES = {"append", "clear", "extend", "insert", "pop", "remove", "reverse", "setdefault", "sort", "update"}
BARRED = {
    "register", "mro", "elements", "open", "input", "law", "version_info", "with_traceback", "add_note", "breakpoint",
    "builtins", "compile", "delattr", "dir", "eval", "exec", "exit", "gc", "globals", "help", "id", "locals", "os",
    "quit", "sys", "vars", "encode", "decode", "hex", "format", "args",
}


def with_parents(tree):
    """Each part of a tree with the part in which it stands."""
    return [(child, node) for node in ast.walk(tree) for child in ast.iter_child_nodes(node)]


def called(node):
    """The name of what a call calls, None for other parts."""
    if not isinstance(node, ast.Call):
        return None
    return node.func.id if isinstance(node.func, ast.Name) else node.func.attr


def functions(tree):
    return [node for node in ast.walk(tree) if isinstance(node, ast.FunctionDef)]


def classes(tree):
    return [node for node in ast.walk(tree) if isinstance(node, ast.ClassDef)]


def bound_in(function):
    """The parameters and local variables of a function."""
    names = {node.arg for node in ast.walk(function) if isinstance(node, ast.arg)}
    used = [node for node in ast.walk(function) if isinstance(node, ast.Name)]
    return names | {node.id for node in used if isinstance(node.ctx, ast.Store)}


def stored(tree):
    """The attributes that are assigned."""
    return {node.attr for node in ast.walk(tree) if isinstance(node, ast.Attribute) and isinstance(node.ctx, ast.Store)}


class PlaceCase(unittest.TestCase):
    def parts(self):
        """Each part of the package, the part in which it stands, and its place."""
        for name, tree in trees():
            for node, parent in with_parents(tree):
                yield node, parent, f"{name}:{getattr(node, 'lineno', 0)}"


class ModulesAndClasses(PlaceCase):
    def test_what_stands_at_module_level(self):
        for name, tree in trees():
            known = []
            for at, node in enumerate(tree.body):
                if isinstance(node, ast.Expr):
                    self.assertEqual(at, 0, name)
                    self.assertIsInstance(node.value.value, str)
                elif isinstance(node, ast.ImportFrom):
                    known += [alias.name for alias in node.names]
                    for other in tree.body[:at]:
                        self.assertIsInstance(other, (ast.Expr, ast.ImportFrom), name)
                elif isinstance(node, ast.Assign):
                    self.assertEqual(len(node.targets), 1)
                    for part in ast.walk(node.value):
                        if isinstance(part, ast.Name):
                            self.assertIn(part.id, known, name)
                        else:
                            self.assertIsInstance(part, PLAIN, name)
                    known.append(node.targets[0].id)
                else:
                    self.assertIsInstance(node, (ast.FunctionDef, ast.ClassDef), name)
                    known.append(node.name)
            self.assertEqual(len(known), len(set(known)), name)

    def test_what_stands_in_classes(self):
        for name, tree in trees():
            for node in classes(tree):
                self.assertIn(node, tree.body)
                self.assertEqual((node.decorator_list, node.keywords), ([], []))
                methods = [part.name for part in node.body[1:]]
                self.assertTrue(all(isinstance(part, ast.FunctionDef) for part in node.body[1:]), name)
                self.assertEqual(len(methods), len(set(methods)))
                self.assertEqual(set(methods) & stored(node), set())
                for part in node.body[1:]:
                    self.assertEqual(part.args.args[0].arg, "self")
                    if part.decorator_list:
                        self.assertEqual(len(part.args.args), 1)
                        self.assertNotIn(part.name, METHODS)
                    self.assertTrue(part.name == "__init__" or not part.name.startswith("__"), (name, part.name))

    def test_attributes_are_assigned_by_own_classes_and_to_local_names(self):
        found = set()
        for _, tree in trees():
            found |= stored(tree) | {part.name for node in classes(tree) for part in node.body[1:]}
        for node, _, place in self.parts():
            if isinstance(node, ast.Attribute):
                self.assertIn(node.attr, found | METHODS | {"__init__"}, place)
                if isinstance(node.ctx, ast.Store):
                    self.assertEqual(ast.unparse(node.value), "self", place)

    def test_functions_are_plain(self):
        for name, tree in trees():
            for node in functions(tree):
                self.assertEqual((node.args.vararg, node.args.kwarg, node.args.kwonlyargs, node.args.posonlyargs,
                                  node.args.defaults, node.returns), (None, None, [], [], [], None), (name, node.name))

    def test_properties_change_nothing(self):
        for name, tree in trees():
            for node in functions(tree):
                if node.decorator_list:
                    for part in ast.walk(node):
                        self.assertNotIsInstance(getattr(part, "ctx", None), (ast.Store, ast.Del), name)
                        self.assertNotIn(called(part), CHANGES | {"run", "undo"}, name)


class Names(PlaceCase):
    def test_forms(self):
        for node, _, place in self.parts():
            for field in ("name", "id", "arg", "attr"):
                word = getattr(node, field, None)
                if word is not None:
                    self.assertRegex(word, r"^(_?[A-Za-z][A-Za-z0-9_]*|_|__init__)$", place)
                    self.assertNotIn(word, BARRED, place)
                    self.assertFalse(re.match(r"_(wall|pe_|dcw_|enum_|cm_|twin_re_|lay_|law_|stub_|sre)", word), place)

    def test_local_names_are_no_classes_and_no_imports(self):
        for name, tree in trees():
            barred = {alias.name for node in tree.body if isinstance(node, ast.ImportFrom) for alias in node.names}
            barred |= {node.name for node in classes(tree)} | set(dir(builtins))
            for node in functions(tree):
                self.assertEqual(bound_in(node) & barred, set(), (name, node.name))

    def test_a_lone_underscore_is_not_read(self):
        for node, _, place in self.parts():
            if isinstance(node, ast.Name) and isinstance(node.ctx, ast.Load):
                self.assertNotEqual(node.id, "_", place)

    def test_files(self):
        for path in FILES:
            self.assertFalse(re.match(r"law_|tests?$|testing$|test_|site$|conftest$", path.stem), path)
            self.assertNotIn(path.stem, dir(builtins))
            self.assertTrue(path.read_text().endswith("\n"), path)

    def test_what_is_imported_is_used(self):
        for name, tree in trees():
            used = {node.id for node in ast.walk(tree) if isinstance(node, ast.Name)}
            for node in tree.body:
                if isinstance(node, ast.ImportFrom):
                    for alias in node.names:
                        self.assertIn(alias.name, used, name)


class Values(PlaceCase):
    def test_what_is_iterated_at_once(self):
        for node, parent, place in self.parts():
            if called(node) in ITERATED:
                loop = isinstance(parent, (ast.For, ast.comprehension)) and parent.iter is node
                self.assertTrue(loop or (called(parent) in ITERATORS and node in parent.args), place)

    def test_sets_are_not_kept(self):
        for node, parent, place in self.parts():
            if isinstance(node, (ast.Set, ast.SetComp)) or called(node) == "set":
                compare = isinstance(parent, ast.Compare) and isinstance(parent.ops[0], (ast.In, ast.NotIn, ast.Eq))
                self.assertTrue(compare or called(parent) in ("sorted", "len"), place)

    def test_own_errors_are_made_where_they_are_raised(self):
        for node, _, place in self.parts():
            if isinstance(node, ast.Raise) and node.exc is not None:
                self.assertIn(called(node.exc), vars(errors), place)
                self.assertIsInstance(node.exc.func, ast.Name, place)
            if isinstance(node, ast.ExceptHandler):
                names = [part.id for part in ast.walk(node.type) if isinstance(part, ast.Name)]
                self.assertTrue(all(name in vars(errors) or name == "KeyError" for name in names), place)

    def test_keywords_of_calls(self):
        for node, _, place in self.parts():
            if isinstance(node, ast.Call):
                for word in node.keywords:
                    self.assertIn(word.arg, KEYWORDS.get(called(node), set()), place)
                for value in node.args:
                    self.assertNotIsInstance(value, ast.Starred, place)

    def test_tables_are_not_changed(self):
        for name, tree in trees():
            tables = {node.targets[0].id for node in tree.body if isinstance(node, ast.Assign)}
            for node, parent in with_parents(tree):
                if isinstance(node, ast.Name) and node.id in tables and isinstance(node.ctx, ast.Load):
                    self.assertNotIsInstance(parent, (ast.Attribute, ast.Starred, ast.Return), (name, node.lineno))
                    self.assertNotIsInstance(getattr(parent, "ctx", None), (ast.Store, ast.Del), (name, node.lineno))

    def test_what_a_loop_goes_over_is_not_changed_in_it(self):
        for node, _, place in self.parts():
            if isinstance(node, ast.For):
                over = ast.unparse(node.iter)
                for part in ast.walk(ast.Module(node.body, [])):
                    if called(part) in CHANGES:
                        self.assertNotIn(ast.unparse(part.func.value), (over, over.partition(".")[0]), place)

    def test_strings_and_lambdas(self):
        for node, parent, place in self.parts():
            if isinstance(node, ast.Constant) and isinstance(node.value, str):
                self.assertFalse(re.search(r"\._+$|^__|__$", node.value), place)
            if isinstance(node, ast.FormattedValue):
                self.assertEqual((node.conversion, node.format_spec), (-1, None), place)
                self.assertFalse([part for part in ast.walk(node.value) if isinstance(part, ast.Constant)], place)
        for path in FILES:
            for line in path.read_text().split("\n"):
                self.assertLessEqual(len(re.findall(r"\blambda\b", line)), 1, path)
                self.assertIsNone(re.search(r"""\\[^nt\\"']""", line), path)

    def test_signs(self):
        for node, _, place in self.parts():
            if isinstance(node, ast.BinOp):
                self.assertNotIsInstance(node.op, ast.Pow, place)
            if isinstance(node, ast.Subscript) and isinstance(node.value, (ast.Constant, ast.List, ast.Tuple)):
                self.fail(place)


if __name__ == "__main__":
    unittest.main()
