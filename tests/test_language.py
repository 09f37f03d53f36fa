"""Those rules of the language that a look at the files of the package can check."""

import ast
import builtins
import pathlib
import re
import unittest

PACKAGE = pathlib.Path(__file__).resolve().parent.parent / "codelots"
FILES = sorted(path for path in PACKAGE.rglob("*") if path.is_file() and "__pycache__" not in path.parts)
TREES = {path: ast.parse(path.read_text(encoding="utf-8")) for path in FILES if path.suffix == ".py"}

BUILTINS = set("""
    len range enumerate zip min max sum abs sorted reversed int str bool bytes list tuple dict set frozenset isinstance
    ord repr any all divmod pow map iter next Exception ValueError TypeError KeyError IndexError LookupError
    ZeroDivisionError ArithmeticError OverflowError RuntimeError NotImplementedError AttributeError StopIteration
    NotImplemented
""".split())

METHODS = set("""
    append clear copy count endswith extend find get index insert isalnum isalpha isdigit islower isspace isupper items
    join keys ljust lower lstrip partition pop remove replace reverse rfind rjust rpartition rsplit rstrip setdefault
    split splitlines startswith strip update upper values zfill bit_length __init__
""".split())

INTERFACE = {
    "texts.py": {"is_name": ["thing"], "is_text": ["thing"]},
    "plain.py": {"plain": ["text"], "are_one": ["text", "other"], "first_unlike": ["text", "other"]},
    "runs.py": {"run": ["text", "inputs"]},
    "codes.py": {"is_code": ["thing", "k"], "run_code": ["code", "inputs"]},
    "reading.py": {"read": ["code"]},
    "sets.py": {
        "sets": ["text", "block"], "may_follow": ["text", "block", "done"], "live": ["text", "block", "done"],
        "crowd": ["text", "block", "done", "row"],
    },
    "counts.py": {"many": ["text", "k"], "polynomial": ["text"], "least": ["text"]},
    "numbers.py": {"code_of": ["text", "k", "number"], "number_of": ["code", "k"]},
    "bars.py": {"is_bar": ["text", "k", "thing"], "bar": ["text", "k"]},
    "prices.py": {
        "cheapest": ["text", "k", "prices"], "price_of": ["code", "prices"], "worths": ["text", "block", "k", "prices"],
        "shows_least": ["text", "block", "k", "prices", "told", "price"],
    },
    "words.py": {"room": ["text", "k"], "laid": ["text", "k", "word"], "word_in": ["code", "k"]},
    "papers.py": {
        "table": ["text", "block"], "is_table": ["text", "block", "thing"], "pairing": ["text", "other"],
        "is_pairing": ["text", "other", "thing"],
    },
}
# The methods that stand in the class itself.
OFFICE = {
    "__init__": ["k"], "put": ["name", "text"], "machine": ["k"], "strike": ["name"], "issue": ["name", "holder", "number"],
    "edit": ["name", "block"], "refit": ["name", "blocks"], "undo": [], "names": [], "holders": ["name"], "registers": [],
    "text": ["name"], "number": ["name", "holder"], "found": ["code"], "lots": ["name", "code"], "sure": ["name", "code"],
    "__len__": [],
}
# Arguments by name alone, with what they are when left out.
BY_NAME = {"run": {"cells": None, "most": 500}, "run_code": {"cells": None, "most": 500}}
CLASSES = {
    "errors.py": [
        "LotError", "Empty", "Twin", "NoSet", "NoNumber", "NoCode", "NoRoom", "Standing", "Full", "NoName", "NoHolder",
        "NoBlock", "NoText",
    ],
    "office.py": ["Office"],
}

BARRED = (ast.AsyncFor, ast.AsyncFunctionDef, ast.AsyncWith, ast.Await, ast.Import, ast.Div, ast.GeneratorExp)


def nodes(*kinds):
    for path, tree in TREES.items():
        for node in ast.walk(tree):
            if isinstance(node, kinds):
                yield path, node


class Files(unittest.TestCase):
    def test_the_folder_holds_plain_python_files_alone(self):
        self.assertIn(PACKAGE / "__init__.py", FILES)
        for path in FILES:
            self.assertRegex(path.name, r"\A([a-z][a-z0-9_]*|__init__)\.py\Z")

    def test_signs_and_sizes(self):
        for path in FILES:
            text = path.read_text(encoding="utf-8")
            self.assertTrue(re.fullmatch(r"[ -~\n]*", text), path)
            lines = text.split("\n")
            self.assertLess(len(lines), 400, path)
            self.assertLessEqual(max(len(line) for line in lines), 120, path)

    def test_functions_have_at_most_forty_lines(self):
        for path, node in nodes(ast.FunctionDef):
            self.assertLessEqual(node.end_lineno - node.lineno + 1, 40, (path, node.name))
            self.assertEqual(node.decorator_list, [], (path, node.name))


class Names(unittest.TestCase):
    def test_imports_come_from_the_file_that_defines_the_name(self):
        for path, node in nodes(ast.ImportFrom):
            self.assertEqual(node.level, 0, path)
            self.assertTrue(node.module.startswith("codelots."), path)
            source = PACKAGE / (node.module.split(".")[1] + ".py")
            for alias in node.names:
                self.assertIn(alias.name, own_names(TREES[source]), path)
                self.assertIsNone(alias.asname, path)

    def test_only_listed_builtins(self):
        for path, node in nodes(ast.Name):
            if hasattr(builtins, node.id):
                self.assertIn(node.id, BUILTINS, path)
                self.assertIsInstance(node.ctx, ast.Load, path)

    def test_no_parameter_is_called_like_a_builtin_or_a_name_of_the_file(self):
        for path, node in nodes(ast.arg):
            self.assertFalse(hasattr(builtins, node.arg), (path, node.arg))
            self.assertNotIn(node.arg, imported_names(TREES[path]), path)

    def test_no_variable_is_called_like_an_import(self):
        for path, node in nodes(ast.Name):
            if isinstance(node.ctx, ast.Store):
                self.assertNotIn(node.id, imported_names(TREES[path]), path)

    def test_only_listed_methods(self):
        own = own_methods()
        for path, node in nodes(ast.Call):
            if isinstance(node.func, ast.Attribute):
                self.assertIn(node.func.attr, METHODS | set(own), path)

    def test_no_name_is_a_method_and_an_attribute(self):
        own = own_methods()
        self.assertEqual(len(own), len(set(own)))
        kept = {node.attr for _, node in nodes(ast.Attribute) if isinstance(node.ctx, ast.Store)}
        self.assertEqual(kept & set(own), set())
        values = {name for kind in (str, int, list, dict, tuple, set, bytes) for name in dir(kind)}
        self.assertEqual(values & set(own), set())
        self.assertEqual(values & kept, {"count"})
        for path, node in nodes(ast.Attribute):
            self.assertIn(node.attr, METHODS | set(own) | kept, path)

    def test_what_is_imported_is_used_and_no_two_files_import_each_other(self):
        for path, tree in TREES.items():
            used = {node.id for node in ast.walk(tree) if isinstance(node, ast.Name)}
            self.assertEqual([name for name in imported_names(tree) if name not in used], [], path)
        left = {path.stem: set(imported_files(tree)) for path, tree in TREES.items()}
        while left:
            free = [name for name in left if not left[name] & set(left)]
            self.assertNotEqual(free, [], left)
            for name in free:
                del left[name]

    def test_nothing_that_the_language_leaves_out(self):
        for path, node in nodes(*BARRED):
            self.fail((path, node.lineno, node))

    def test_is_stands_beside_none_true_and_false(self):
        for path, node in nodes(ast.Compare):
            for sign, right in zip(node.ops, node.comparators):
                if isinstance(sign, (ast.Is, ast.IsNot)):
                    self.assertIsInstance(right, ast.Constant, (path, node.lineno))

    def test_lists_and_dicts_at_module_level_are_not_passed_on(self):
        for path, tree in TREES.items():
            tables = [
                node.targets[0].id for node in tree.body
                if isinstance(node, ast.Assign) and isinstance(node.value, (ast.Dict, ast.List))
            ]
            for node in ast.walk(tree):
                if isinstance(node, ast.Call):
                    passed = [part.id for part in node.args if isinstance(part, ast.Name)]
                    self.assertEqual([name for name in passed if name in tables], [], (path, node.lineno))


class Interface(unittest.TestCase):
    def test_functions_stand_in_their_files_with_their_arguments(self):
        for name, functions in INTERFACE.items():
            found = {node.name: node for node in TREES[PACKAGE / name].body if isinstance(node, ast.FunctionDef)}
            for function, arguments in functions.items():
                self.assertEqual([part.arg for part in found[function].args.args], arguments)
                self.assertEqual(found[function].args.defaults, [])
                names = [part.arg for part in found[function].args.kwonlyargs]
                values = [part.value for part in found[function].args.kw_defaults]
                self.assertEqual(dict(zip(names, values)), BY_NAME.get(function, {}))

    def test_the_offices_methods_stand_in_the_class(self):
        office = [node for node in TREES[PACKAGE / "office.py"].body if isinstance(node, ast.ClassDef)][0]
        self.assertEqual(office.bases, [])
        found = {node.name: node.args for node in office.body if isinstance(node, ast.FunctionDef)}
        for name, arguments in OFFICE.items():
            self.assertEqual([part.arg for part in found[name].args], ["self"] + arguments)
            self.assertEqual((found[name].defaults, found[name].kwonlyargs), ([], []))
        self.assertEqual([name for name in found if name not in OFFICE and not name.startswith("_")], [])

    def test_classes_stand_in_their_files(self):
        for name, classes in CLASSES.items():
            found = [node.name for node in TREES[PACKAGE / name].body if isinstance(node, ast.ClassDef)]
            self.assertEqual(sorted(found), sorted(classes))


def own_names(tree):
    found = []
    for node in tree.body:
        if isinstance(node, (ast.FunctionDef, ast.ClassDef)):
            found.append(node.name)
        if isinstance(node, ast.Assign):
            found.append(node.targets[0].id)
    return found


def own_methods():
    """The names of all methods of the package but those with two underscores."""
    return [
        part.name for _, node in nodes(ast.ClassDef) for part in node.body
        if isinstance(part, ast.FunctionDef) and not part.name.startswith("__")
    ]


def imported_files(tree):
    return [node.module.split(".")[1] for node in tree.body if isinstance(node, ast.ImportFrom)]


def imported_names(tree):
    return [alias.name for node in tree.body if isinstance(node, ast.ImportFrom) for alias in node.names]


if __name__ == "__main__":
    unittest.main()
