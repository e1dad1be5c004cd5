"""The form of the package's files: what can be seen at once of the rules for it (sizes, imports, names, builtins)."""

import ast
import builtins
import os
import unittest

FOLDER = os.path.join(os.path.dirname(os.path.dirname(os.path.abspath(__file__))), "webnames")
BUILTINS = set(
    "len range enumerate zip min max sum abs sorted reversed int str bool bytes list tuple dict set isinstance ord "
    "repr any all divmod pow Exception ValueError TypeError KeyError IndexError LookupError ZeroDivisionError "
    "ArithmeticError OverflowError RuntimeError NotImplementedError map iter next property staticmethod".split())
METHODS = set(
    "append clear copy count endswith extend find get index insert isalnum isalpha isdigit islower isspace isupper "
    "items join keys ljust lower lstrip partition pop remove replace reverse rfind rjust rpartition rsplit rstrip "
    "setdefault split splitlines startswith strip update upper values zfill bit_length add discard".split())
BARRED = set(
    "register mro elements open input law version_info with_traceback add_note attrgetter breakpoint builtins compile "
    "copyright credits delattr dir eval exec exit gc globals help id importlib license locals methodcaller os quit "
    "setattr super type vars sys".split())
# Examples that are run leave a name `_` among the builtins.
ALL_BUILTINS = set(dir(builtins)) - {"_"}
LIBRARY = {"heapq", "math", "itertools", "collections"}


def modules():
    found = {}
    for name in sorted(os.listdir(FOLDER)):
        if name != "__pycache__":
            with open(os.path.join(FOLDER, name), encoding="utf-8") as file:
                found[name] = file.read()
    return found


TEXTS = modules()
TREES = {name: ast.parse(text) for name, text in TEXTS.items()}


def all_nodes():
    for name, tree in TREES.items():
        for node in ast.walk(tree):
            yield name, node


def bound_at_top(tree):
    found = []
    for node in tree.body:
        if isinstance(node, (ast.FunctionDef, ast.ClassDef)):
            found.append(node.name)
        elif isinstance(node, ast.ImportFrom):
            found += [alias.asname or alias.name for alias in node.names]
        elif isinstance(node, ast.Assign):
            found += [target.id for target in node.targets]
    return found


def bound_inside(tree):
    """The names of parameters and of what is assigned in functions."""
    found = set()
    for function in ast.walk(tree):
        if isinstance(function, (ast.FunctionDef, ast.Lambda)):
            for node in ast.walk(function):
                if isinstance(node, ast.arg):
                    found.add(node.arg)
                elif isinstance(node, ast.Name) and isinstance(node.ctx, ast.Store):
                    found.add(node.id)
    return found


class Form(unittest.TestCase):
    def test_files(self):
        for name, text in TEXTS.items():
            self.assertRegex(name, "^([a-z][a-z0-9]*|__init__)[.]py$")
            self.assertTrue(all(sign == "\n" or " " <= sign <= "~" for sign in text), name)
            lines = text.split("\n")
            self.assertLessEqual(len(lines) - 1, 399, name)
            self.assertLessEqual(max(len(line) for line in lines), 120, name)
            self.assertTrue(text.endswith("\n") and not text.endswith("\n\n"), name)

    def test_functions_are_small(self):
        for name, node in all_nodes():
            if isinstance(node, ast.FunctionDef):
                self.assertLessEqual(node.end_lineno - node.lineno + 1, 40, (name, node.name))
                for mark in node.decorator_list:
                    self.assertIn(ast.unparse(mark), ("property", "staticmethod"))

    def test_imports(self):
        needs = {name: set() for name in TREES}
        for name, tree in TREES.items():
            behind = False
            for node in tree.body:
                if isinstance(node, ast.ImportFrom):
                    self.assertFalse(behind, name)
                    self.assertEqual(node.level, 0)
                    if node.module not in LIBRARY:
                        package, file = node.module.split(".")
                        self.assertEqual(package, "webnames")
                        needs[name].add(file + ".py")
                        defined = [x.name for x in TREES[file + ".py"].body if hasattr(x, "name")]
                        defined += [t.id for x in TREES[file + ".py"].body if isinstance(x, ast.Assign) for t in x.targets]
                        for alias in node.names:
                            self.assertIn(alias.name, defined)
                            self.assertIsNone(alias.asname)
                elif not (isinstance(node, ast.Expr) and isinstance(node.value, ast.Constant)):
                    behind = True
            used = {node.id for node in ast.walk(tree) if isinstance(node, ast.Name)}
            for node in tree.body:
                if isinstance(node, ast.ImportFrom):
                    for alias in node.names:
                        self.assertIn(alias.name, used, (name, "is imported for nothing"))
        while needs:
            free = [name for name in needs if not needs[name] & set(needs)]
            self.assertTrue(free, "files import from each other: " + ", ".join(needs))
            for name in free:
                del needs[name]

    def test_top_level(self):
        for name, tree in TREES.items():
            for node in tree.body:
                kinds = (ast.ImportFrom, ast.FunctionDef, ast.ClassDef, ast.Assign)
                docstring = isinstance(node, ast.Expr) and isinstance(node.value, ast.Constant)
                self.assertTrue(docstring or isinstance(node, kinds), (name, node.lineno))
            bound = bound_at_top(tree)
            self.assertEqual(len(set(bound)), len(bound), name)

    def test_names(self):
        for name, tree in TREES.items():
            inside = bound_inside(tree)
            imported = {a.name for node in tree.body if isinstance(node, ast.ImportFrom) for a in node.names}
            classes = {node.name for node in tree.body if isinstance(node, ast.ClassDef)}
            self.assertFalse(inside & (imported | classes), name)
            named = inside | set(bound_at_top(tree))
            self.assertFalse(named & ALL_BUILTINS, name)
            self.assertFalse(named & BARRED, name)

    def test_properties(self):
        marked = [node for _, node in all_nodes() if isinstance(node, ast.FunctionDef) and node.decorator_list]
        properties = {node.name for node in marked if ast.unparse(node.decorator_list[0]) == "property"}
        static = {node.name for node in marked} - properties
        plain = {x.name for _, node in all_nodes() if isinstance(node, ast.ClassDef) for x in node.body
                 if isinstance(x, ast.FunctionDef) and not x.decorator_list}
        self.assertFalse(properties & plain)
        self.assertFalse(static & (plain | properties))
        self.assertFalse((properties | static) & METHODS)
        for name, node in all_nodes():
            if isinstance(node, ast.Attribute) and isinstance(node.ctx, ast.Store):
                self.assertNotIn(node.attr, properties | static, (name, node.lineno))
        # As names they stand over methods only.
        names = [node.id for _, node in all_nodes() if isinstance(node, ast.Name)]
        self.assertEqual(len([name for name in names if name in ("property", "staticmethod")]), len(marked))

    def test_properties_call_no_name_that_is_an_attribute_too(self):
        stored = {node.attr for _, node in all_nodes() if isinstance(node, ast.Attribute) and isinstance(node.ctx, ast.Store)}
        for name, node in all_nodes():
            if isinstance(node, ast.FunctionDef) and node.decorator_list:
                for inner in ast.walk(node):
                    if isinstance(inner, ast.Call) and isinstance(inner.func, ast.Attribute):
                        self.assertNotIn(inner.func.attr, stored, (name, node.name))

    def test_what_is_iterated_at_once(self):
        # range, zip, enumerate, reversed and views are gone over where they stand; generator expressions, too.
        takers = {"list", "tuple", "dict", "sorted", "sum", "any", "all", "enumerate", "zip", "min", "max", "reversed", "len"}
        for name, tree in TREES.items():
            allowed = set()
            for node in ast.walk(tree):
                if isinstance(node, (ast.For, ast.comprehension)):
                    allowed.add(id(node.iter))
                if isinstance(node, ast.Call):
                    taker = node.func.id if isinstance(node.func, ast.Name) else None
                    joined = isinstance(node.func, ast.Attribute) and node.func.attr == "join"
                    if taker in takers | {"permutations", "combinations"} or joined:
                        allowed |= {id(x) for x in node.args}
            for node in ast.walk(tree):
                where = (name, getattr(node, "lineno", 0))
                if isinstance(node, ast.GeneratorExp):
                    self.assertIn(id(node), allowed, where)
                if isinstance(node, ast.Call):
                    called = node.func.id if isinstance(node.func, ast.Name) else getattr(node.func, "attr", None)
                    lazy = ("range", "zip", "enumerate", "reversed", "items", "keys", "values", "permutations", "combinations")
                    if called in lazy:
                        self.assertIn(id(node), allowed, where)

    def test_errors_are_made_where_they_are_raised(self):
        made = {node.name for node in ast.walk(TREES["errors.py"]) if isinstance(node, ast.ClassDef)}
        for name, node in all_nodes():
            if isinstance(node, ast.Raise):
                self.assertIsInstance(node.exc, ast.Call, (name, node.lineno))
                self.assertIn(node.exc.func.id, made, (name, node.lineno))
            if isinstance(node, ast.ExceptHandler):
                caught = node.type.elts if isinstance(node.type, ast.Tuple) else [node.type]
                self.assertTrue({x.id for x in caught} <= made, (name, node.lineno))

    def test_tables_name_what_is_defined_above(self):
        for name, tree in TREES.items():
            above = set()
            for node in tree.body:
                if isinstance(node, ast.Assign):
                    used = {x.id for x in ast.walk(node.value) if isinstance(x, ast.Name)}
                    self.assertTrue(used <= above, (name, node.lineno))
                    inside = [x for x in ast.walk(node.value) if isinstance(x, (ast.List, ast.Dict)) and x is not node.value]
                    self.assertFalse(inside, (name, node.lineno))
                elif hasattr(node, "name"):
                    above.add(node.name)

    def test_lambdas_stand_alone_in_their_lines(self):
        for name, tree in TREES.items():
            lines = [node.lineno for node in ast.walk(tree) if isinstance(node, ast.Lambda)]
            self.assertEqual(len(set(lines)), len(lines), name)

    def test_methods_are_no_attributes(self):
        for name, node in all_nodes():
            if isinstance(node, ast.ClassDef):
                methods = [x.name for x in node.body if isinstance(x, ast.FunctionDef)]
                self.assertEqual(len(set(methods)), len(methods), node.name)
                for inner in ast.walk(node):
                    if isinstance(inner, ast.Attribute) and isinstance(inner.ctx, ast.Store):
                        self.assertNotIn(inner.attr, methods, (name, node.name))

    def test_what_is_used(self):
        methods = {node.name for _, node in all_nodes() if isinstance(node, ast.FunctionDef)}
        for name, node in all_nodes():
            where = (name, getattr(node, "lineno", 0))
            barred = (ast.Global, ast.AsyncFunctionDef, ast.Div, ast.Set, ast.SetComp, ast.Yield, ast.YieldFrom,
                      ast.NamedExpr, ast.AnnAssign, ast.Import, ast.Starred)
            self.assertNotIsInstance(node, barred, where)
            if isinstance(node, ast.Name) and node.id in ALL_BUILTINS:
                self.assertIn(node.id, BUILTINS, where)
            if isinstance(node, ast.Constant):
                self.assertNotIsInstance(node.value, (float, complex, bytes), where)
                if isinstance(node.value, str):
                    self.assertNotIn("%", node.value, where)
            if isinstance(node, ast.Call) and isinstance(node.func, ast.Attribute):
                self.assertTrue(node.func.attr in METHODS or node.func.attr in methods, where)
            if isinstance(node, ast.Compare):
                for op, side in zip(node.ops, node.comparators):
                    if isinstance(op, (ast.Is, ast.IsNot)):
                        self.assertTrue(isinstance(side, ast.Constant), where)
            if isinstance(node, ast.ExceptHandler):
                self.assertIsNotNone(node.type, where)

    def test_sets_are_not_kept_or_iterated(self):
        for name, tree in TREES.items():
            taken = set()
            for node in ast.walk(tree):
                if isinstance(node, ast.Call) and isinstance(node.func, ast.Name) and node.func.id in ("sorted", "len"):
                    taken |= {id(x) for x in node.args}
            for node in ast.walk(tree):
                if isinstance(node, ast.Call) and isinstance(node.func, ast.Name) and node.func.id == "set":
                    self.assertIn(id(node), taken, (name, node.lineno))

    def test_what_a_loop_goes_over_is_not_changed_in_it(self):
        changing = ("append", "extend", "insert", "pop", "remove", "clear", "update", "setdefault", "reverse")
        for name, node in all_nodes():
            if isinstance(node, ast.For):
                gone_over = {ast.dump(x).replace("Store", "Load") for x in ast.walk(node.iter)
                             if isinstance(x, (ast.Name, ast.Attribute))}
                for inner in [x for row in node.body for x in ast.walk(row)]:
                    if isinstance(inner, ast.Call) and isinstance(inner.func, ast.Attribute):
                        if inner.func.attr in changing:
                            self.assertNotIn(ast.dump(inner.func.value), gone_over, (name, inner.lineno))


if __name__ == "__main__":
    unittest.main()
