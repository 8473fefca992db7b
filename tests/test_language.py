"""The rules of LANGUAGE.md that can be read off the files, and the interface file by file."""

import ast
import builtins
import os
import unittest

from tests.interface import CLASSES, ERRORS, FUNCTIONS

PACKAGE = os.path.join(os.path.dirname(os.path.dirname(os.path.abspath(__file__))), "compassless")

LIBRARY = {
    "heapq": {"heappush", "heappop", "heapify", "heapreplace", "heappushpop"},
    "math": {"gcd", "lcm", "isqrt", "comb", "perm", "factorial"},
    "itertools": {"product", "combinations", "permutations", "chain", "accumulate", "pairwise"},
}
BUILTINS = set(
    "len range enumerate zip min max sum abs sorted reversed int str bool list tuple dict set isinstance ord repr "
    "any all divmod pow iter next ValueError Exception TypeError KeyError IndexError LookupError".split()
)
METHODS = set(
    "append clear copy count endswith extend find get index insert isalnum isalpha isdigit islower isspace isupper "
    "items join keys ljust lower lstrip partition pop remove replace reverse rfind rjust rpartition rsplit rstrip "
    "setdefault split splitlines startswith strip update upper values zfill bit_length removeprefix removesuffix add "
    "discard".split()
)
DOUBLE = {"__init__", "__eq__", "__repr__", "__str__", "__len__", "__mul__"}
BARRED_NAMES = set("mro elements open input law version_info with_traceback add_note register".split())
BARRED_NODES = (
    ast.AsyncFunctionDef,
    ast.AsyncFor,
    ast.AsyncWith,
    ast.Await,
    ast.Import,
    ast.Global,
    ast.Div,
    ast.MatMult,
    # Allowed here and there, but no file of the package needs them.
    ast.GeneratorExp,
    ast.Try,
    ast.Lambda,
    ast.With,
    ast.Match,
)


def read_files():
    found = {}
    for name in sorted(os.listdir(PACKAGE)):
        if name != "__pycache__":
            with open(os.path.join(PACKAGE, name), encoding="utf-8") as file:
                found[name] = file.read()
    return found


FILES = read_files()
TREES = {name: ast.parse(text) for name, text in FILES.items()}


def functions(tree):
    return [node for node in ast.walk(tree) if isinstance(node, ast.FunctionDef)]


def bound_at_top(tree):
    """What a file binds at module level, each name as often as it is bound."""
    found = []
    for node in tree.body:
        if isinstance(node, ast.ImportFrom):
            found += [alias.name for alias in node.names]
        elif isinstance(node, (ast.FunctionDef, ast.ClassDef)):
            found.append(node.name)
        elif isinstance(node, ast.Assign):
            found += [target.id for target in node.targets]
    return found


def own_names(tree):
    return [name for name in bound_at_top(tree) if name not in imported(tree)]


def imported(tree):
    return [alias.name for node in tree.body if isinstance(node, ast.ImportFrom) for alias in node.names]


def local_names(function):
    """Parameters and whatever else the function assigns."""
    found = [arg.arg for arg in function.args.args]
    if function.args.vararg:
        found.append(function.args.vararg.arg)
    return found + [n.id for n in ast.walk(function) if isinstance(n, ast.Name) and isinstance(n.ctx, ast.Store)]


def head(function):
    return f"{function.name}({ast.unparse(function.args)})"


class Files(unittest.TestCase):
    def test_names_and_sizes(self):
        self.assertIn("__init__.py", FILES)
        self.assertLessEqual(len(FILES), 100)
        for name, text in FILES.items():
            self.assertRegex(name, r"^(__init__|[a-z][a-z0-9]*)\.py$")
            lines = text.split("\n")
            self.assertLess(len(lines), 400, name)
            self.assertLessEqual(max(len(line) for line in lines), 120, name)
            self.assertTrue(all(sign == "\n" or " " <= sign <= "~" for sign in text), name)

    def test_functions_are_short(self):
        for name, tree in TREES.items():
            for function in functions(tree):
                self.assertLessEqual(function.end_lineno - function.lineno + 1, 40, f"{name} {function.name}")

    def test_module_level(self):
        for name, tree in TREES.items():
            self.assertIsInstance(tree.body[0], ast.Expr, name)
            for node in tree.body[1:]:
                self.assertIsInstance(node, (ast.ImportFrom, ast.FunctionDef, ast.ClassDef, ast.Assign), name)
                if isinstance(node, ast.Assign):
                    self.assertEqual(len(node.targets), 1)
                    ast.literal_eval(node.value)
            self.assertEqual(len(set(bound_at_top(tree))), len(bound_at_top(tree)), name)
        self.assertEqual(len(TREES["__init__.py"].body), 1)


class Imports(unittest.TestCase):
    def test_from_the_very_file(self):
        for name, tree in TREES.items():
            for node in ast.walk(tree):
                if isinstance(node, ast.ImportFrom):
                    self.assertIn(node, tree.body)
                    self.assertEqual((node.level, {alias.asname for alias in node.names}), (0, {None}))
                    self.check_import(name, node)

    def check_import(self, name, node):
        package, _, file = node.module.partition(".")
        names = {alias.name for alias in node.names}
        if package == "compassless":
            self.assertTrue(names <= set(own_names(TREES[file + ".py"])), name)
        else:
            self.assertTrue(names <= LIBRARY[node.module], name)

    def test_no_circles(self):
        wants = {}
        for name, tree in TREES.items():
            modules = [node.module for node in tree.body if isinstance(node, ast.ImportFrom)]
            wants[name] = [m.partition(".")[2] + ".py" for m in modules if m.startswith("compassless")]
        while wants:
            free = [name for name, others in wants.items() if not any(other in wants for other in others)]
            self.assertTrue(free, wants)
            for name in free:
                del wants[name]

    def test_every_import_is_used(self):
        for name, tree in TREES.items():
            used = {node.id for node in ast.walk(tree) if isinstance(node, ast.Name)}
            self.assertTrue(set(imported(tree)) <= used, name)


class Code(unittest.TestCase):
    def test_barred_nodes(self):
        for name, tree in TREES.items():
            for node in ast.walk(tree):
                self.assertNotIsInstance(node, BARRED_NODES, name)
                if isinstance(node, ast.Constant):
                    self.assertNotIsInstance(node.value, (float, complex, bytes), name)
                if isinstance(node, (ast.Is, ast.IsNot)):
                    continue
                if isinstance(node, ast.Compare) and isinstance(node.ops[0], (ast.Is, ast.IsNot)):
                    self.assertIsInstance(node.comparators[0], ast.Constant, name)
                if isinstance(node, (ast.FunctionDef, ast.ClassDef)):
                    self.assertEqual(node.decorator_list, [], name)
                if isinstance(node, (ast.Yield, ast.YieldFrom)):
                    self.assertEqual(name, "fields.py")

    def test_strings(self):
        for name, tree in TREES.items():
            docs = {ast.get_docstring(node, clean=False) for node in [tree, *functions(tree)] if node.body}
            for node in ast.walk(tree):
                if isinstance(node, ast.Constant) and isinstance(node.value, str) and node.value not in docs:
                    self.assertNotIn("%", node.value, name)

    def test_names(self):
        for name, tree in TREES.items():
            barred = set(imported(tree)) | {n.name for n in tree.body if isinstance(n, ast.ClassDef)}
            for function in functions(tree):
                names = local_names(function)
                self.assertFalse(barred & set(names), f"{name} {function.name}")
                self.assertFalse(set(dir(builtins)) & set(names), f"{name} {function.name}")
                self.assertFalse(BARRED_NAMES & set(names + [function.name]), name)
            self.assertFalse(set(dir(builtins)) & set(bound_at_top(tree)), name)

    def test_only_the_allowed_builtins(self):
        for name, tree in TREES.items():
            known = set(bound_at_top(tree)) | BUILTINS
            for node in tree.body:
                local = {n for function in functions(node) for n in local_names(function)}
                for part in ast.walk(node):
                    if isinstance(part, ast.Name):
                        self.assertIn(part.id, known | local, name)

    def test_only_the_allowed_methods(self):
        own = {function.name for tree in TREES.values() for function in functions(tree)}
        for name, tree in TREES.items():
            for node in ast.walk(tree):
                if isinstance(node, ast.Call) and isinstance(node.func, ast.Attribute):
                    self.assertIn(node.func.attr, METHODS | own, name)

    def test_double_underscores(self):
        for name, tree in TREES.items():
            for function in functions(tree):
                if function.name.startswith("__"):
                    self.assertIn(function.name, DOUBLE, name)


def kept_tables():
    """The names of the lists and dicts that stand at module level somewhere."""
    values = [node for tree in TREES.values() for node in tree.body if isinstance(node, ast.Assign)]
    return {node.targets[0].id for node in values if isinstance(node.value, (ast.Dict, ast.List))}


def is_only_read(node, name):
    """True if the part of the code reads this name by an index, by in, or makes a copy of it."""
    if isinstance(node, ast.Subscript):
        return isinstance(node.value, ast.Name) and node.value.id == name
    if isinstance(node, ast.Compare):
        asked = [part.id for part in node.comparators if isinstance(part, ast.Name)]
        return isinstance(node.ops[0], (ast.In, ast.NotIn)) and name in asked
    return isinstance(node, ast.Call) and isinstance(node.func, ast.Name) and node.func.id in ("list", "dict", "len")


class Tables(unittest.TestCase):
    def test_are_only_read(self):
        names = kept_tables()
        self.assertIn("CALLS", names)
        for name, tree in TREES.items():
            for node in ast.walk(tree):
                for part in ast.iter_child_nodes(node):
                    if isinstance(part, ast.Name) and part.id in names and isinstance(part.ctx, ast.Load):
                        self.assertTrue(is_only_read(node, part.id), f"{name} {part.id}")


class Interface(unittest.TestCase):
    def test_functions_are_defined_in_their_files(self):
        for file, heads in FUNCTIONS.items():
            defined = [head(node) for node in TREES[file + ".py"].body if isinstance(node, ast.FunctionDef)]
            for wanted in heads:
                self.assertIn(wanted, defined)

    def test_classes_have_their_methods_themselves(self):
        for file, classes in CLASSES.items():
            for node in TREES[file + ".py"].body:
                if isinstance(node, ast.ClassDef):
                    # One underscore ahead of a name: a method for the class alone.
                    defined = [head(m) for m in functions(node) if m.name[0] != "_" or m.name[:2] == "__"]
                    self.assertEqual(defined, classes[node.name])

    def test_errors(self):
        found = {n.name: n.bases[0].id for n in TREES["errors.py"].body if isinstance(n, ast.ClassDef)}
        due = {"FloorError": "ValueError"}
        for family, members in ERRORS["FloorError"].items():
            due[family] = "FloorError"
            due.update(dict.fromkeys(members, family))
        self.assertEqual(found, due)


if __name__ == "__main__":
    unittest.main()
