"""The package keeps to its subset of Python, as far as a short test can tell."""

import ast
import pathlib
import re
import sys
import unittest

FOLDER = pathlib.Path(__file__).resolve().parent.parent / "keptabroad"
FILES = sorted(FOLDER.rglob("*.py"))

NODES = (
    ast.Module, ast.Expr, ast.Constant, ast.ImportFrom, ast.alias, ast.FunctionDef, ast.ClassDef, ast.arguments,
    ast.arg, ast.Assign, ast.AugAssign, ast.Return, ast.If, ast.For, ast.While, ast.Break, ast.Continue, ast.Pass,
    ast.Raise, ast.Delete, ast.Call, ast.Name, ast.Attribute, ast.Subscript, ast.Slice, ast.Tuple, ast.List, ast.Dict,
    ast.ListComp, ast.SetComp, ast.DictComp, ast.comprehension, ast.BinOp, ast.BoolOp, ast.UnaryOp, ast.Compare,
    ast.IfExp, ast.JoinedStr, ast.FormattedValue, ast.Lambda, ast.expr_context, ast.operator, ast.boolop,
    ast.unaryop, ast.cmpop, ast.keyword, ast.Try, ast.ExceptHandler,
)
BUILTINS = {
    "len", "range", "enumerate", "zip", "min", "max", "sum", "abs", "sorted", "reversed", "int", "str", "bool", "list",
    "tuple", "dict", "set", "isinstance", "ord", "repr", "any", "all", "divmod", "ValueError", "KeyError", "super",
}
METHODS = {
    "append", "clear", "copy", "count", "endswith", "extend", "find", "get", "index", "insert", "isdigit", "items",
    "join", "keys", "partition", "pop", "remove", "replace", "reverse", "setdefault", "split", "startswith", "strip",
    "update", "values", "isascii", "isdecimal",
}
WORDS = ("type", "typing", "enum", "dataclass", "overload", "namedtuple", "eval", "exec", "open", "input", "global")


def trees():
    return [(path.name, ast.parse(path.read_text())) for path in FILES]


def nodes():
    return [(f"{name}:{getattr(node, 'lineno', 0)}", node) for name, tree in trees() for node in ast.walk(tree)]


class Language(unittest.TestCase):
    def test_the_folder_holds_plain_files_alone(self):
        found = [path for path in FOLDER.rglob("*") if "__pycache__" not in path.parts]
        self.assertEqual(sorted(found), FILES)
        for path in FILES:
            self.assertRegex(path.name, r"^[a-z_]+\.py$")
            self.assertNotIn(path.stem, sys.stdlib_module_names)

    def test_size_and_characters(self):
        for path in FILES:
            text = path.read_bytes()
            self.assertTrue(all(byte == 10 or 32 <= byte <= 126 for byte in text), path)
            lines = text.decode().split("\n")
            self.assertLessEqual(len(lines), 399, path)
            self.assertLessEqual(max(len(line) for line in lines), 120, path)
        for place, node in nodes():
            if isinstance(node, ast.FunctionDef):
                self.assertLessEqual(node.end_lineno - node.lineno + 1, 40, place)

    def test_statements_and_values(self):
        for place, node in nodes():
            self.assertIsInstance(node, NODES, place)
            self.assertNotIsInstance(node, (ast.Div, ast.MatMult), place)
            if isinstance(node, ast.Constant):
                self.assertIsInstance(node.value, (int, str, bool, type(None)), place)
                self.assertNotIn("%" if isinstance(node.value, str) else None, [*str(node.value)], place)
            if isinstance(node, ast.FunctionDef):
                self.assertIn(ast.unparse(ast.Tuple(node.decorator_list)), ("()", "(property,)"), place)
            if isinstance(node, ast.Compare):
                for sign, side in zip(node.ops, node.comparators):
                    if isinstance(sign, (ast.Is, ast.IsNot)):
                        self.assertIsInstance(side, ast.Constant, place)

    def test_imports_of_the_package_alone(self):
        for place, node in nodes():
            self.assertNotIsInstance(node, ast.Import, place)
            if isinstance(node, ast.ImportFrom):
                self.assertEqual(node.level, 0, place)
                self.assertRegex(node.module, r"^keptabroad\.[a-z_]+$", place)
                tree = dict(trees())[node.module.split(".")[1] + ".py"]
                defined = {part.name for part in tree.body if hasattr(part, "name")}
                defined |= {part.targets[0].id for part in tree.body if isinstance(part, ast.Assign)}
                for alias in node.names:
                    self.assertIn(alias.name, defined, place)
                    self.assertIsNone(alias.asname, place)

    def test_no_two_files_import_from_each_other(self):
        imports = {name[:-3]: {node.module.split(".")[1] for node in ast.walk(tree) if isinstance(node, ast.ImportFrom)}
                   for name, tree in trees()}
        while imports:
            free = [name for name, those in imports.items() if not those & set(imports)]
            self.assertNotEqual(free, [], imports)
            for name in free:
                del imports[name]

    def test_names(self):
        own = set()
        for _, node in nodes():
            if isinstance(node, (ast.FunctionDef, ast.ClassDef)):
                own.add(node.name)
            if isinstance(node, ast.arg):
                own.add(node.arg)
            if isinstance(node, ast.alias):
                own.add(node.name)
            if isinstance(node, ast.Name) and isinstance(node.ctx, ast.Store):
                own.add(node.id)
            if isinstance(node, ast.Attribute) and isinstance(node.ctx, ast.Store):
                own.add(node.attr)
        builtin = set(dir(__builtins__) if not isinstance(__builtins__, dict) else __builtins__)
        self.assertEqual(own & builtin, set())
        for place, node in nodes():
            if isinstance(node, ast.Name):
                self.assertTrue(node.id in own | BUILTINS | {"property"}, (place, node.id))
            if isinstance(node, ast.Attribute):
                self.assertTrue(node.attr in own | METHODS, (place, node.attr))

    def test_words_that_do_not_occur(self):
        for name, tree in trees():
            for node in ast.walk(tree):
                if isinstance(node, (ast.Module, ast.FunctionDef, ast.ClassDef)) and ast.get_docstring(node):
                    del node.body[0]
            for word in WORDS:
                self.assertIsNone(re.search(rf"\b{word}\b", ast.unparse(tree)), (name, word))

    def test_docstrings_tell_what_each_part_is(self):
        for place, node in nodes():
            if isinstance(node, (ast.Module, ast.ClassDef, ast.FunctionDef)):
                if getattr(node, "name", "") != "__init__":
                    self.assertIsNotNone(ast.get_docstring(node), place)


if __name__ == "__main__":
    unittest.main()
