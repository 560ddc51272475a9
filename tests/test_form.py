"""The form of the code: what of LANGUAGE.md can be told from the code alone.

Where a rule lets something under conditions that the package does not need, the test bars it altogether.
"""

import ast
import builtins
import pathlib
import re
import unittest

PACKAGE = pathlib.Path(__file__).resolve().parent.parent / "untoldgames"

BUILTINS = set("""len range enumerate zip min max sum abs sorted reversed int str bool list tuple dict set isinstance ord
    repr any all divmod ValueError""".split())
METHODS = set("""append clear copy count endswith extend find get index insert isalnum isalpha isdigit islower isspace
    isupper items join keys ljust lower lstrip partition pop remove replace reverse rfind rjust rpartition rsplit rstrip
    setdefault split splitlines startswith strip update upper values zfill bit_length""".split())
DOUBLE = {"__init__", "__eq__"}
BARRED_NAMES = set("""register mro elements open input law version_info with_traceback add_note attrgetter breakpoint
    builtins compile copyright credits delattr dir eval exec exit gc getattr globals hasattr help id importlib license
    locals methodcaller os quit setattr super type vars sys iter next map""".split())
BARRED_WORDS = """type typing typing_extensions enum Enum IntEnum StrEnum Flag IntFlag Generic Protocol ABC ABCMeta
    namedtuple NamedTuple TypedDict TYPE_CHECKING abstractmethod""".split()
ATTRIBUTES = set("""items keys values pop update append clear extend insert remove reverse setdefault sort args encode
    decode hex fromhex format""".split())
STATEMENTS = (
    ast.Assign, ast.AugAssign, ast.If, ast.While, ast.For, ast.Return, ast.Break, ast.Continue, ast.Pass, ast.Raise,
    ast.Delete, ast.Try, ast.Expr, ast.FunctionDef, ast.ClassDef, ast.ImportFrom)
EXPRESSIONS = (
    ast.BoolOp, ast.BinOp, ast.UnaryOp, ast.IfExp, ast.Dict, ast.Set, ast.ListComp, ast.SetComp, ast.DictComp,
    ast.Compare, ast.Call, ast.Constant, ast.Attribute, ast.Subscript, ast.Starred, ast.Name, ast.List, ast.Tuple,
    ast.Slice, ast.Lambda, ast.JoinedStr, ast.FormattedValue)
AT_ONCE = {"zip", "enumerate", "reversed"}


def files():
    return sorted(PACKAGE.glob("*.py"))


def with_parents(tree):
    """All nodes of a tree, each of which then knows the one above it."""
    for node in ast.walk(tree):
        for child in ast.iter_child_nodes(node):
            child.above = node
    return list(ast.walk(tree))


class Form(unittest.TestCase):
    @classmethod
    def setUpClass(cls):
        cls.texts = {path.stem: path.read_text() for path in files()}
        cls.trees = {name: ast.parse(text) for name, text in cls.texts.items()}
        cls.nodes = {name: with_parents(tree) for name, tree in cls.trees.items()}
        cls.classes = {node.name: node for nodes in cls.nodes.values() for node in nodes
                       if isinstance(node, ast.ClassDef)}
        cls.own_methods = {node.name for kind in cls.classes.values() for node in kind.body
                           if isinstance(node, ast.FunctionDef)}

    def each(self, *kinds):
        """All nodes of some kinds in the package, with their places."""
        for name, nodes in self.nodes.items():
            for node in nodes:
                if isinstance(node, kinds):
                    yield f"{name}:{getattr(node, 'lineno', 0)}", node

    def test_files(self):
        for path in PACKAGE.iterdir():
            if path.name != "__pycache__":
                self.assertRegex(path.name, r"\A(__init__|[a-z][a-z0-9_]*)\.py\Z")
        self.assertLessEqual(len(files()), 100)
        self.assertEqual(ast.unparse(self.trees["__init__"]).count("\n"), 0)

    def test_lines(self):
        for name, text in self.texts.items():
            self.assertRegex(text, r"\A[ -~\n]*\Z", name)
            lines = text.split("\n")
            self.assertLessEqual(len(lines), 399, name)
            self.assertLessEqual(max(len(line) for line in lines), 120, name)
        for place, node in self.each(ast.FunctionDef):
            self.assertLessEqual(node.end_lineno - node.lineno + 1, 40, place)

    def test_module_level(self):
        for name, tree in self.trees.items():
            bound = []
            for at, node in enumerate(tree.body):
                if isinstance(node, ast.Expr):
                    self.assertTrue(at == 0 and isinstance(node.value.value, str), name)
                elif isinstance(node, ast.Assign):
                    bound.append(node.targets[0].id)
                    self.assertFalse([one for one in ast.walk(node.value) if isinstance(one, (ast.Call, ast.Set))])
                elif isinstance(node, ast.ImportFrom):
                    bound.extend(one.name for one in node.names)
                else:
                    self.assertIsInstance(node, (ast.FunctionDef, ast.ClassDef), name)
                    bound.append(node.name)
            self.assertEqual(len(bound), len(set(bound)), name)

    def test_imports(self):
        above = {}
        for name, tree in self.trees.items():
            above[name] = []
            for node in ast.walk(tree):
                if not isinstance(node, ast.ImportFrom):
                    continue
                package, _, module = node.module.partition(".")
                self.assertEqual((package, node.level), ("untoldgames", 0), name)
                above[name].append(module)
                defined = {one.name for one in self.trees[module].body
                           if isinstance(one, (ast.FunctionDef, ast.ClassDef))}
                defined |= {one.targets[0].id for one in self.trees[module].body if isinstance(one, ast.Assign)}
                for one in node.names:
                    self.assertIn(one.name, defined, name)
                    self.assertIsNone(one.asname, name)
                    used = [read for read in ast.walk(tree) if isinstance(read, ast.Name) and read.id == one.name]
                    self.assertTrue(used, (name, one.name))
            self.assertEqual(len(above[name]), len(set(above[name])), name)
        while above:
            free = [name for name, modules in above.items() if not set(modules) & set(above)]
            self.assertTrue(free, above)
            for name in free:
                del above[name]

    def test_statements_and_expressions(self):
        for place, node in self.each(ast.stmt):
            self.assertIsInstance(node, STATEMENTS, place)
        for place, node in self.each(ast.expr):
            self.assertIsInstance(node, EXPRESSIONS, place)
        for place, node in self.each(ast.FunctionDef, ast.ClassDef):
            self.assertEqual(node.decorator_list, [], place)
        for place, node in self.each(ast.Div):
            self.fail(place)

    def test_functions(self):
        for place, node in self.each(ast.FunctionDef):
            self.assertTrue(ast.get_docstring(node) or node.name in DOUBLE, (place, node.name))
            self.assertIsNone(node.returns, place)
            for argument in node.args.args:
                self.assertIsNone(argument.annotation, place)

    def test_constants(self):
        for place, node in self.each(ast.Constant):
            if node.value is not None:
                self.assertIn(type(node.value), (int, str, bool), place)
            if isinstance(node.value, str) and not isinstance(node.above, ast.Expr):
                self.assertNotIn("%", node.value, place)
                for word in BARRED_WORDS:
                    self.assertNotRegex(node.value, rf"\b{word}\b", place)
        for name, text in self.texts.items():
            for found in re.findall(r"\\(.)", text):
                self.assertIn(found, "nt\\\"'", name)
            for word in ("dataclass", "overload", "contextmanager", "_wall", "_WallAttr"):
                self.assertNotIn(word, text, name)

    def test_exponents(self):
        for place, node in self.each(ast.BinOp):
            if isinstance(node.op, ast.Pow):
                self.assertIsInstance(node.right, ast.Constant, place)
                self.assertLessEqual(node.right.value, 64, place)

    def bound(self, tree):
        """All names that a tree binds anywhere."""
        found = {}
        for node in ast.walk(tree):
            if isinstance(node, ast.Name) and not isinstance(node.ctx, ast.Load):
                found[node.id] = node
            elif isinstance(node, ast.arg):
                found[node.arg] = node
            elif isinstance(node, (ast.FunctionDef, ast.ClassDef)):
                found[node.name] = node
            elif isinstance(node, ast.alias):
                found[node.name] = node
            elif isinstance(node, ast.ExceptHandler) and node.name:
                found[node.name] = node
        return found

    def test_names(self):
        for name, tree in self.trees.items():
            found = self.bound(tree)
            for one, node in found.items():
                self.assertRegex(one, r"\A(_?[A-Za-z][A-Za-z0-9_]*|_|__init__|__eq__)\Z", name)
                self.assertNotIn(one, BARRED_NAMES, name)
                self.assertFalse(hasattr(builtins, one) and one not in DOUBLE and not self.is_method(node), (name, one))
            for node in ast.walk(tree):
                if isinstance(node, ast.Name) and isinstance(node.ctx, ast.Load) and node.id not in found:
                    self.assertIn(node.id, BUILTINS, name)

    def is_method(self, node):
        return isinstance(node, ast.FunctionDef) and isinstance(node.above, ast.ClassDef)

    def test_no_local_name_is_an_import_or_a_class(self):
        for name, tree in self.trees.items():
            barred = {one.name for node in tree.body if isinstance(node, ast.ImportFrom) for one in node.names}
            barred |= {node.name for node in tree.body if isinstance(node, (ast.ClassDef, ast.FunctionDef))}
            for function in ast.walk(tree):
                if isinstance(function, ast.FunctionDef):
                    inner = [one for node in function.body for one in self.bound(node)]
                    inner += [argument.arg for argument in function.args.args]
                    self.assertFalse(set(inner) & barred, (name, function.name))

    def test_attributes(self):
        assigned = {node.attr for _, node in self.each(ast.Attribute) if isinstance(node.ctx, ast.Store)}
        self.assertFalse(assigned & ATTRIBUTES)
        for place, node in self.each(ast.Attribute):
            if isinstance(node.ctx, ast.Store):
                self.assertIsInstance(node.value, ast.Name, place)
            elif isinstance(node.above, ast.Call) and node.above.func is node:
                self.assertIn(node.attr, METHODS | self.own_methods | {"__init__"}, place)
            else:
                self.assertIn(node.attr, assigned, place)
        for place, node in self.each(ast.ClassDef):
            methods = [one.name for one in node.body if isinstance(one, ast.FunctionDef)]
            self.assertEqual(len(methods), len(set(methods)), place)
            stored = {one.attr for one in ast.walk(node) if isinstance(one, ast.Attribute)
                      and isinstance(one.ctx, ast.Store)}
            self.assertFalse(stored & set(methods), place)
            for method in methods:
                self.assertTrue(method in DOUBLE or not method.startswith("__"), place)

    def test_calls(self):
        for place, node in self.each(ast.Call):
            if isinstance(node.func, ast.Name):
                known = node.func.id not in BUILTINS or not node.keywords
                self.assertTrue(known or {one.arg for one in node.keywords} <= {"key", "default", "reverse"}, place)
                if node.func.id == "isinstance":
                    self.assertNotIn("object", ast.unparse(node.args[1]), place)
            else:
                self.assertIsInstance(node.func, ast.Attribute, place)
                self.assertEqual(node.keywords, [], place)

    def test_builtins_and_classes_are_no_values(self):
        for place, node in self.each(ast.Name):
            if node.id not in BUILTINS and node.id not in self.classes or not isinstance(node.ctx, ast.Load):
                continue
            above = node.above
            if isinstance(above, ast.Tuple):
                above = above.above
            if isinstance(above, ast.Attribute) and above.attr == "__init__":
                continue
            if isinstance(above, (ast.ClassDef, ast.ExceptHandler)):
                continue
            if isinstance(above, ast.keyword):
                self.assertIn(node.id, ("len", "int", "str", "abs", "sum", "min", "max", "tuple"), place)
                continue
            self.assertIsInstance(above, ast.Call, place)
            self.assertTrue(above.func is node or ast.unparse(above.func) == "isinstance", place)

    def test_what_is_iterated_at_once(self):
        for place, node in self.each(ast.Call):
            if not isinstance(node.func, ast.Name) or node.func.id not in AT_ONCE | {"range"}:
                continue
            above = node.above
            loops = isinstance(above, (ast.For, ast.comprehension)) and above.iter is node
            calls = isinstance(above, ast.Call) and isinstance(above.func, ast.Name) and above.func.id in (
                "list", "tuple", "dict", "sorted", "sum", "any", "all", "enumerate", "zip")
            self.assertTrue(loops or calls, place)

    def test_what_a_loop_goes_over_is_not_changed(self):
        changing = {"append", "clear", "extend", "insert", "pop", "remove", "reverse", "setdefault", "update"}
        for place, loop in self.each(ast.For):
            over = {ast.unparse(one) for one in ast.walk(loop.iter) if isinstance(one, (ast.Name, ast.Attribute))}
            for node in [one for row in loop.body for one in ast.walk(row)]:
                if isinstance(node, ast.Call) and isinstance(node.func, ast.Attribute) and node.func.attr in changing:
                    self.assertNotIn(ast.unparse(node.func.value), over, place)
                if isinstance(node, ast.Subscript) and not isinstance(node.ctx, ast.Load):
                    self.assertNotIn(ast.unparse(node.value), over, place)

    def test_sets(self):
        """Sets stand only where they are sorted, counted or compared at once."""
        for place, node in self.each(ast.Set, ast.SetComp, ast.Call):
            if isinstance(node, ast.Call) and ast.unparse(node.func) != "set":
                continue
            above = node.above
            self.assertIsInstance(above, ast.Call, place)
            self.assertIn(ast.unparse(above.func), ("sorted", "len"), place)
            self.assertEqual(above.keywords, [], place)

    def test_is(self):
        for place, node in self.each(ast.Compare):
            for sign, other in zip(node.ops, node.comparators):
                if isinstance(sign, (ast.Is, ast.IsNot)):
                    self.assertIsInstance(other, ast.Constant, place)
                    self.assertIn(other.value, (None, True, False), place)

    def test_errors(self):
        for place, node in self.each(ast.Raise):
            self.assertIsNone(node.cause, place)
            self.assertIsInstance(node.exc, ast.Call, place)
            self.assertIn(node.exc.func.id, self.classes, place)
        for place, node in self.each(ast.ExceptHandler):
            self.assertIn(ast.unparse(node.type), list(self.classes) + ["KeyError"], place)
        for place, node in self.each(ast.Try):
            for row in node.finalbody:
                self.assertIsInstance(row, ast.Assign, place)
                for one in ast.walk(row):
                    self.assertNotIsInstance(one, (ast.Call, ast.Subscript, ast.BinOp, ast.Compare), place)

    def test_double_underscore_methods(self):
        for place, node in self.each(ast.FunctionDef):
            if node.name == "__init__":
                self.assertFalse([one for one in ast.walk(node) if isinstance(one, ast.Return)], place)
            if node.name == "__eq__":
                self.assertRegex(ast.unparse(node.body[-1]), r"\Areturn isinstance\(other, \w+\) and self\.", place)
                self.assertEqual(len(node.body), 1, place)


if __name__ == "__main__":
    unittest.main()
