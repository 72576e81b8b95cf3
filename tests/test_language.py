"""What can be seen by a test of the rules that the files of the package keep."""

import ast
import builtins
import os
import unittest

HERE = os.path.dirname(os.path.abspath(__file__))
PACKAGE = os.path.join(os.path.dirname(HERE), "takenover")

BUILTINS = set("""len range enumerate zip min max sum abs sorted reversed int str bool bytes list tuple dict set
isinstance ord repr any all divmod ValueError True False None""".split())
METHODS = set("""append clear copy count endswith extend find get index insert isalnum isalpha isdigit islower isspace
isupper items join keys ljust lower lstrip partition pop remove replace reverse rfind rjust rpartition rsplit rstrip
setdefault split splitlines startswith strip update upper values zfill bit_length add discard""".split())
OUTSIDE = {"heapq": {"heappush", "heappop"}, "math": {"gcd", "factorial", "comb", "isqrt"}}
OUTSIDE["itertools"] = {"combinations"}
BARRED = set("""register mro elements open input law version_info attrgetter breakpoint builtins compile copyright
credits delattr dir eval exec exit gc globals help id importlib license locals methodcaller os quit super type vars
sys""".split())
SPECIAL = {"__init__", "__eq__"}
STATEMENTS = (ast.FunctionDef, ast.ClassDef, ast.Import, ast.ImportFrom, ast.Assign, ast.Expr)
EXPRESSIONS = (ast.GeneratorExp, ast.Yield, ast.YieldFrom, ast.Await, ast.NamedExpr, ast.Global)


AT_ONCE = set("range enumerate zip reversed".split())
VIEWS = set("items keys values".split())
TAKING = set("list tuple dict sorted sum any all enumerate zip min max combinations".split())


def file_names():
    return sorted(name for name in os.listdir(PACKAGE) if name != "__pycache__")


def text_of(name):
    with open(os.path.join(PACKAGE, name), encoding="utf-8") as file:
        return file.read()


def trees():
    return {name: ast.parse(text_of(name)) for name in file_names()}


def nodes(tree, *kinds):
    return [node for node in ast.walk(tree) if isinstance(node, kinds)]


def imports(tree):
    return [(node.module, alias.name) for node in nodes(tree, ast.ImportFrom) for alias in node.names]


def bound_inside(tree):
    """Return the names of parameters and of local variables."""
    found = {node.arg for node in nodes(tree, ast.arg)}
    for function in nodes(tree, ast.FunctionDef):
        found |= {node.id for node in nodes(function, ast.Name) if isinstance(node.ctx, ast.Store)}
    return found


class Language(unittest.TestCase):
    def test_files(self):
        for name in file_names():
            self.assertRegex(name, r"^[a-z_]+\.py$")
            text = text_of(name)
            self.assertTrue(all(" " <= sign <= "~" or sign == "\n" for sign in text), name)
            lines = text.split("\n")
            self.assertLess(len(lines), 400, name)
            self.assertTrue(all(len(line) <= 120 for line in lines), name)
            for node in nodes(ast.parse(text), ast.FunctionDef):
                self.assertLessEqual(node.end_lineno - node.lineno + 1, 40, (name, node.name))

    def test_imports(self):
        own = {"takenover." + name[:-3]: tree for name, tree in trees().items()}
        for name, tree in trees().items():
            self.assertEqual([], nodes(tree, ast.Import), name)
            for module, word in imports(tree):
                if module in OUTSIDE:
                    self.assertIn(word, OUTSIDE[module])
                    continue
                defined = {node.name for node in own[module].body if hasattr(node, "name")}
                for node in own[module].body:
                    if isinstance(node, ast.Assign):
                        defined.add(node.targets[0].id)
                self.assertIn(word, defined, (name, module))
                self.assertTrue(all(node.level == 0 for node in nodes(tree, ast.ImportFrom)))

    def test_no_two_files_import_from_each_other(self):
        reach = {"takenover." + name[:-3]: {module for module, _ in imports(tree)} for name, tree in trees().items()}
        for _ in reach:
            reach = {name: found.union(*[reach.get(module, set()) for module in found])
                     for name, found in reach.items()}
        self.assertEqual([], [name for name, found in reach.items() if name in found])

    def test_every_import_is_used(self):
        for name, tree in trees().items():
            read = {node.id for node in nodes(tree, ast.Name)}
            self.assertEqual([], [word for _, word in imports(tree) if word not in read], name)

    def test_statements_and_expressions(self):
        for name, tree in trees().items():
            for node in tree.body:
                self.assertIsInstance(node, STATEMENTS, name)
            self.assertEqual([], nodes(tree, *EXPRESSIONS, ast.AsyncFunctionDef, ast.Starred), name)
            self.assertEqual([], [node for node in nodes(tree, ast.FunctionDef) if node.decorator_list], name)
            self.assertEqual([], nodes(tree, ast.Div, ast.With, ast.Match), name)
            for node in nodes(tree, ast.Try):
                self.assertEqual([], node.handlers, name)
                for statement in node.finalbody:
                    self.assertIsInstance(statement, ast.Assign)
                    self.assertEqual([], nodes(statement, ast.Call, ast.Subscript, ast.BinOp))
            for node in nodes(tree, ast.BinOp):
                if isinstance(node.op, ast.Pow):
                    self.assertIn(node.right.value, range(65), name)
            for node in nodes(tree, ast.Constant):
                self.assertNotIsInstance(node.value, (float, complex), name)
                if isinstance(node.value, str):
                    self.assertNotIn("%", node.value, name)

    def test_names(self):
        for name, tree in trees().items():
            taken = {word for _, word in imports(tree)} | {node.name for node in nodes(tree, ast.ClassDef)}
            defined = {node.name for node in nodes(tree, ast.FunctionDef)}
            inside = bound_inside(tree)
            self.assertEqual(set(), inside & taken, name)
            self.assertEqual(set(), inside & defined - {"sheets"}, name)
            self.assertEqual(set(), (inside | defined - SPECIAL) & (set(dir(builtins)) | BARRED), name)
            for word in inside | defined - SPECIAL:
                self.assertFalse(word.startswith("__"), (name, word))
            read = {node.id for node in nodes(tree, ast.Name) if isinstance(node.ctx, ast.Load)}
            self.assertNotIn("_", read)
            top = {node.targets[0].id for node in tree.body if isinstance(node, ast.Assign)}
            self.assertEqual(set(), read - inside - defined - taken - top - BUILTINS, name)

    def test_methods_and_comparisons(self):
        own = {node.name for tree in trees().values() for node in nodes(tree, ast.FunctionDef)}
        for name, tree in trees().items():
            for node in nodes(tree, ast.Call):
                if isinstance(node.func, ast.Attribute):
                    self.assertIn(node.func.attr, METHODS | own, name)
            for node in nodes(tree, ast.Compare):
                if any(isinstance(sign, (ast.Is, ast.IsNot)) for sign in node.ops):
                    self.assertTrue(all(isinstance(side, ast.Constant) for side in node.comparators), name)

    def test_what_is_iterated_at_once(self):
        for name, tree in trees().items():
            right = {id(node.iter) for node in nodes(tree, ast.For, ast.comprehension)}
            for node in nodes(tree, ast.Call):
                if isinstance(node.func, ast.Name) and node.func.id in TAKING:
                    right |= {id(arg) for arg in (node.args if node.func.id == "zip" else node.args[:1])}
            for node in nodes(tree, ast.Call):
                views = isinstance(node.func, ast.Attribute) and node.func.attr in VIEWS
                if views or isinstance(node.func, ast.Name) and node.func.id in AT_ONCE:
                    self.assertIn(id(node), right, (name, node.lineno))

    def test_sets_stand_in_few_places(self):
        for name, tree in trees().items():
            right = {id(arg) for node in nodes(tree, ast.Call) if getattr(node.func, "id", "") in ("sorted", "len")
                     for arg in node.args}
            made = [node for node in nodes(tree, ast.Call) if getattr(node.func, "id", "") == "set"]
            for node in made + nodes(tree, ast.Set, ast.SetComp):
                self.assertIn(id(node), right, (name, node.lineno))

    def test_no_name_is_a_method_and_an_attribute(self):
        methods, attributes = set(), set()
        for tree in trees().values():
            for node in nodes(tree, ast.ClassDef):
                methods |= {inner.name for inner in nodes(node, ast.FunctionDef)}
            attributes |= {node.attr for node in nodes(tree, ast.Attribute) if isinstance(node.ctx, ast.Store)}
        self.assertEqual(set(), methods & attributes)

    def test_what_a_loop_goes_over_is_not_changed_in_it(self):
        changing = set("append extend insert pop remove clear reverse update setdefault".split())
        for name, tree in trees().items():
            loops = nodes(tree, ast.For)
            # A range is told before the loop begins.
            for loop in [one for one in loops if getattr(getattr(one.iter, "func", None), "id", "") != "range"]:
                over = {node.id for node in nodes(loop.iter, ast.Name)}
                for node in [inner for statement in loop.body for inner in nodes(statement, ast.Call)]:
                    if isinstance(node.func, ast.Attribute) and node.func.attr in changing:
                        self.assertNotIn(getattr(node.func.value, "id", None), over, (name, node.lineno))
                for node in [inner for statement in loop.body for inner in nodes(statement, ast.Subscript)]:
                    if isinstance(node.ctx, (ast.Store, ast.Del)):
                        self.assertNotIn(getattr(node.value, "id", None), over, (name, node.lineno))

    def test_each_function_and_class_of_the_package_says_what_it_is(self):
        for name, tree in trees().items():
            self.assertIsNotNone(ast.get_docstring(tree), name)
            for node in nodes(tree, ast.FunctionDef, ast.ClassDef):
                if node.name not in SPECIAL:
                    self.assertIsNotNone(ast.get_docstring(node), (name, node.name))


if __name__ == "__main__":
    unittest.main()
