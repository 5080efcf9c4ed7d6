"""Those rules of LANGUAGE.md about the files of the package that a short look can tell."""

import ast
import builtins
import pathlib
import re
import unittest

PACKAGE = pathlib.Path(__file__).resolve().parent.parent / "onlyforced"

LIBRARY = {
    "heapq": {"heappush", "heappop", "heapify", "heapreplace", "heappushpop"},
    "math": {"gcd", "lcm", "isqrt", "comb", "perm", "factorial"},
    "itertools": {
        "product", "combinations", "permutations",
        "chain", "accumulate", "pairwise", "islice", "zip_longest",
    },
    "collections": {"defaultdict", "deque"},
}

BUILTINS = set("""
len range enumerate zip min max sum abs sorted reversed int str bool bytes list tuple dict set frozenset
isinstance ord repr any all divmod pow getattr hasattr setattr iter next map type super property
staticmethod classmethod Exception ValueError TypeError KeyError IndexError LookupError
ZeroDivisionError ArithmeticError OverflowError RuntimeError NotImplementedError AttributeError
StopIteration NotImplemented
""".split())


# What is iterated on the spot, and what may do so: rules L2 and L23.
AT_ONCE = {"range", "zip", "enumerate", "reversed"}
VIEWS = {"items", "keys", "values"}
TAKES_FIRST = {
    "list", "tuple", "dict", "sorted", "sum", "any", "all", "enumerate", "min", "max", "join",
    "combinations", "permutations",
}
TAKES_EACH = {"zip", "product"}


def name_called(node):
    """The name of the function or method that is called, None if nothing is."""
    if not isinstance(node, ast.Call):
        return None
    return node.func.id if isinstance(node.func, ast.Name) else getattr(node.func, "attr", None)


def iterated_at_once(node):
    """Whether the call is one whose answer is to be iterated on the spot."""
    if isinstance(node, ast.Call) and isinstance(node.func, ast.Attribute):
        return node.func.attr in VIEWS and not node.args
    return name_called(node) in AT_ONCE


def may_iterate(parent, node):
    """Whether a node that is to be iterated on the spot may stand there below its parent."""
    if isinstance(parent, (ast.For, ast.comprehension)):
        return parent.iter is node
    if isinstance(parent, ast.Assign):
        # A plain local variable may keep it.
        return len(parent.targets) == 1 and isinstance(parent.targets[0], ast.Name)
    if isinstance(parent, ast.Compare):
        return name_called(node) == "range" and isinstance(parent.ops[0], (ast.In, ast.NotIn))
    name = name_called(parent)
    if name in ("len", "reversed"):
        return name_called(node) == "range"
    return name in TAKES_EACH or name in TAKES_FIRST and parent.args[0] is node


def sources():
    return sorted(PACKAGE.rglob("*.py"))


def trees():
    return [(path, ast.parse(path.read_text(encoding="ascii"))) for path in sources()]


def imports_of(tree):
    return [node for node in ast.walk(tree) if isinstance(node, (ast.Import, ast.ImportFrom))]


class FormTest(unittest.TestCase):
    def test_the_package_holds_plain_files_only(self):
        for path in PACKAGE.rglob("*"):
            if "__pycache__" in path.parts:
                continue
            self.assertRegex(path.name, r"^[a-z0-9_]+\.py$")

    def test_signs_lines_and_lengths(self):
        for path in sources():
            text = path.read_text(encoding="ascii")
            self.assertIsNone(re.search(r"[^\n -~]", text), path.name)
            lines = text.split("\n")
            self.assertLessEqual(len(lines), 399, path.name)
            self.assertLessEqual(max(len(line) for line in lines), 120, path.name)

    def test_functions_are_short(self):
        for path, tree in trees():
            for node in ast.walk(tree):
                if isinstance(node, ast.FunctionDef):
                    self.assertLessEqual(node.end_lineno - node.lineno + 1, 40, (path.name, node.name))

    def test_imports(self):
        for path, tree in trees():
            for node in imports_of(tree):
                self.assertIsInstance(node, ast.ImportFrom, path.name)
                self.assertEqual(node.level, 0, path.name)
                names = {alias.name for alias in node.names}
                self.assertTrue(all(alias.asname is None for alias in node.names), path.name)
                if node.module in LIBRARY:
                    self.assertLessEqual(names, LIBRARY[node.module], path.name)
                    continue
                package, _, file = node.module.partition(".")
                self.assertEqual(package, "onlyforced", path.name)
                there = ast.parse((PACKAGE / (file + ".py")).read_text(encoding="ascii"))
                defined = {
                    part.name for part in there.body if isinstance(part, (ast.FunctionDef, ast.ClassDef))
                }
                for part in there.body:
                    if isinstance(part, ast.Assign):
                        defined |= {target.id for target in part.targets}
                self.assertLessEqual(names, defined, path.name)

    def test_no_two_files_import_from_each_other(self):
        reach = {}
        for path, tree in trees():
            modules = [node.module for node in imports_of(tree)]
            reach[path.stem] = [name.partition(".")[2] for name in modules if "." in name]

        def look(file, above):
            self.assertNotIn(file, above)
            for other in reach[file]:
                look(other, above + [file])

        for file in reach:
            look(file, [])

    def test_module_level_holds_only_definitions(self):
        for path, tree in trees():
            for number, node in enumerate(tree.body):
                docstring = number == 0 and isinstance(node, ast.Expr)
                right = (ast.ImportFrom, ast.FunctionDef, ast.ClassDef, ast.Assign)
                self.assertTrue(docstring or isinstance(node, right), (path.name, node.lineno))

    def test_only_the_builtins_of_the_language(self):
        barred = {name for name in dir(builtins) if not name.startswith("_")} - BUILTINS
        barred -= {"True", "False", "None"}
        for path, tree in trees():
            for node in ast.walk(tree):
                if isinstance(node, ast.Name):
                    self.assertNotIn(node.id, barred, (path.name, node.lineno))
                if isinstance(node, (ast.FunctionDef, ast.ClassDef, ast.arg)):
                    name = node.arg if isinstance(node, ast.arg) else node.name
                    self.assertNotIn(name, barred | BUILTINS, (path.name, node.lineno))

    def test_ranges_and_their_like_are_iterated_at_once(self):
        for path, tree in trees():
            for parent in ast.walk(tree):
                for node in ast.iter_child_nodes(parent):
                    if iterated_at_once(node):
                        self.assertTrue(may_iterate(parent, node), (path.name, node.lineno))

    def test_a_range_that_is_handed_to_a_function_is_found(self):
        for text, right in (
            ("f(range(3))", False), ("f(list(range(3)))", True), ("x = [k for k in range(3)]", True),
            ("x = f(2, zip(a, b))", False), ("return_ = f(d.items())", False), ("x = range(3)", True),
            ("x = sorted(d.items())", True), ("x.y = range(3)", False), ("x = (range(3), 1)", False),
            ("x = k in range(3)", True), ("x = len(range(3))", True), ("x = len(zip(a, b))", False),
        ):
            tree = ast.parse(text)
            found = [
                may_iterate(parent, node) for parent in ast.walk(tree)
                for node in ast.iter_child_nodes(parent) if iterated_at_once(node)
            ]
            self.assertEqual(found, [right], text)

    def test_names_begin_as_they_should(self):
        for path, tree in trees():
            for node in ast.walk(tree):
                if isinstance(node, ast.ClassDef):
                    self.assertRegex(node.name, r"^[A-Za-z]", (path.name, node.lineno))
                if isinstance(node, (ast.ClassDef, ast.FunctionDef)):
                    self.assertIsNone(re.match("_(wall|pe_|dcw_|enum_|cm_|lay_|law_|stub_|sre)", node.name), node.name)

    def test_nothing_has_the_name_of_a_class_or_an_import_of_its_file(self):
        for path, tree in trees():
            taken = {part.name for part in tree.body if isinstance(part, ast.ClassDef)}
            taken |= {alias.name for node in imports_of(tree) for alias in node.names}
            for node in ast.walk(tree):
                if isinstance(node, ast.arg):
                    self.assertNotIn(node.arg, taken, (path.name, node.lineno))
                if isinstance(node, ast.Name) and isinstance(node.ctx, ast.Store):
                    self.assertNotIn(node.id, taken, (path.name, node.lineno))

    def test_no_name_is_a_method_and_an_attribute(self):
        methods, attributes = set(), set()
        for _, tree in trees():
            for node in ast.walk(tree):
                if isinstance(node, ast.ClassDef):
                    methods |= {part.name for part in node.body if isinstance(part, ast.FunctionDef)}
                if isinstance(node, ast.Attribute) and isinstance(node.ctx, ast.Store):
                    attributes.add(node.attr)
        self.assertEqual(methods & attributes, set())

    def test_no_floats_and_no_division(self):
        for path, tree in trees():
            for node in ast.walk(tree):
                self.assertNotIsInstance(node, ast.Div, path.name)
                if isinstance(node, ast.Constant):
                    self.assertNotIsInstance(node.value, (float, complex), path.name)


if __name__ == "__main__":
    unittest.main()
