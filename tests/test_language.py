"""The package keeps to its subset of the language, as far as a plain look at the code can tell."""

import ast
import builtins
import pathlib
import re
import unittest

FOLDER = pathlib.Path(__file__).resolve().parent.parent / "stillhad"
FILES = sorted(FOLDER.glob("*.py"))
NODES = {
    "Module", "Expr", "Constant", "ImportFrom", "alias", "Assign", "AugAssign", "Name", "Load", "Store", "FunctionDef",
    "arguments", "arg", "ClassDef", "Return", "Raise", "If", "For", "While", "Try", "ExceptHandler", "Continue",
    "Break", "Pass", "Call", "Attribute", "Subscript", "Slice", "Tuple", "List", "Dict", "Starred", "keyword",
    "ListComp", "DictComp", "comprehension", "BoolOp", "And", "Or", "UnaryOp", "Not", "USub", "BinOp", "Add", "Sub",
    "Mult", "FloorDiv", "Mod", "Compare", "Eq", "NotEq", "Lt", "LtE", "Gt", "GtE", "Is", "IsNot", "In", "NotIn",
    "IfExp", "BitAnd", "BitOr", "JoinedStr", "FormattedValue", "Assert",
}
BUILTINS = {
    "len", "range", "enumerate", "zip", "min", "max", "sum", "abs", "sorted", "reversed", "int", "str", "bool",
    "list", "tuple", "dict", "isinstance", "ord", "repr", "any", "all", "divmod", "set", "ValueError", "super",
}
METHODS = {
    "append", "copy", "count", "endswith", "extend", "find", "get", "index", "insert", "items", "join", "keys",
    "partition", "pop", "replace", "rpartition", "split", "startswith", "strip", "values", "isdigit",
}
LIBRARY = {"gcd", "lcm"}
BARRED_NAMES = {
    "register", "mro", "elements", "open", "input", "law", "version_info", "with_traceback", "add_note", "exit",
    "compile", "copyright", "credits", "dir", "eval", "exec", "gc", "globals", "help", "id", "license", "locals",
    "os", "quit", "vars", "sys", "super",
}
BARRED_WORDS = re.compile(
    r"\b(type|typing|typing_extensions|enum|Enum|IntEnum|StrEnum|Flag|IntFlag|Generic|Protocol|ABC|ABCMeta|"
    r"namedtuple|NamedTuple|TypedDict|TYPE_CHECKING|abstractmethod)\b|dataclass|overload|contextmanager|_wall|_WallAttr")
DOUBLE = {"__init__", "__eq__", "__len__", "__add__"}
COMPREHENSIONS = (ast.ListComp, ast.DictComp)
TAKERS = {"any", "all", "sum", "min", "max", "sorted", "tuple", "list"}


def trees():
    return [(path, ast.parse(path.read_text())) for path in FILES]


def functions(tree):
    return [node for node in ast.walk(tree) if isinstance(node, ast.FunctionDef)]


def bound_in(function):
    """All names that a function binds, its parameters included."""
    names = [one.arg for one in ast.walk(function.args) if isinstance(one, ast.arg)]
    for node in ast.walk(function):
        if isinstance(node, ast.Name) and isinstance(node.ctx, ast.Store):
            names.append(node.id)
        if isinstance(node, ast.ExceptHandler) and node.name:
            names.append(node.name)
    return set(names)


class LanguageTest(unittest.TestCase):
    def tell(self, path, node, why):
        self.fail(f"{path.name}:{getattr(node, 'lineno', 0)}: {why}")

    def test_files(self):
        self.assertLessEqual(len(FILES), 100)
        for path in FOLDER.iterdir():
            if path.name != "__pycache__":
                self.assertRegex(path.name, r"^[a-z_][a-z0-9_]*\.py$")
        for path in FILES:
            lines = path.read_bytes().decode("ascii").split("\n")
            self.assertLessEqual(len(lines) - 1, 399, path.name)
            for at, line in enumerate(lines):
                self.assertLessEqual(len(line), 120, f"{path.name}:{at + 1}")
                self.assertTrue(all(" " <= sign <= "~" for sign in line), f"{path.name}:{at + 1}")

    def test_nodes(self):
        for path, tree in trees():
            for node in ast.walk(tree):
                if type(node).__name__ not in NODES:
                    self.tell(path, node, type(node).__name__)
                if isinstance(node, (ast.FunctionDef, ast.ClassDef)) and node.decorator_list:
                    self.tell(path, node, "a decorator")
                if isinstance(node, ast.Constant) and isinstance(node.value, (float, complex, bytes)):
                    self.tell(path, node, "a value")
                if isinstance(node, ast.Constant) and isinstance(node.value, str) and "%" in node.value:
                    self.tell(path, node, "a sign in a string")
                if isinstance(node, ast.Starred) and isinstance(node.ctx, ast.Load):
                    if not isinstance(node.value, (ast.Name, ast.Attribute)):
                        self.tell(path, node, "a star")

    def test_module_level(self):
        for path, tree in trees():
            self.assertIsNotNone(ast.get_docstring(tree), path.name)
            bound = []
            for at, node in enumerate(tree.body):
                if isinstance(node, ast.ImportFrom):
                    bound += [one.name for one in node.names]
                    before = tree.body[1:at]
                    self.assertTrue(all(isinstance(one, ast.ImportFrom) for one in before), path.name)
                elif isinstance(node, (ast.FunctionDef, ast.ClassDef)):
                    bound.append(node.name)
                elif isinstance(node, ast.Assign):
                    bound.append(node.targets[0].id)
                    ast.literal_eval(node.value)
                elif at > 0:
                    self.tell(path, node, "at module level")
            self.assertEqual(len(bound), len(set(bound)), path.name)

    def test_imports(self):
        leads = {}
        defined = {}
        for path, tree in trees():
            defined[path.stem] = {
                node.name for node in tree.body if isinstance(node, (ast.FunctionDef, ast.ClassDef))} | {
                node.targets[0].id for node in tree.body if isinstance(node, ast.Assign)}
        for path, tree in trees():
            leads[path.stem] = set()
            for node in ast.walk(tree):
                if not isinstance(node, ast.ImportFrom):
                    continue
                self.assertEqual(node.level, 0)
                self.assertTrue(all(one.asname is None for one in node.names), path.name)
                names = {one.name for one in node.names}
                self.assertEqual([one.name for one in node.names], sorted(names, key=lambda name: (
                    not name.isupper(), not name[0].isupper(), name)), path.name)
                if node.module == "math":
                    self.assertLessEqual(names, LIBRARY)
                    continue
                head, name = node.module.split(".")
                self.assertEqual(head, "stillhad")
                self.assertLessEqual(names, defined[name], path.name)
                leads[path.stem].add(name)
                text = path.read_text()
                for one in names:
                    self.assertGreater(len(re.findall(rf"\b{one}\b", text)), 1, f"{path.name}: {one} is not used")
        while leads:
            ready = [name for name in leads if not leads[name] & set(leads)]
            self.assertTrue(ready, f"a circle of imports among {sorted(leads)}")
            for name in ready:
                del leads[name]

    def test_functions(self):
        for path, tree in trees():
            top = {node.name for node in ast.walk(tree) if isinstance(node, ast.ClassDef)}
            for node in tree.body:
                if isinstance(node, ast.ImportFrom):
                    top |= {one.name for one in node.names}
                if isinstance(node, (ast.FunctionDef, ast.Assign)):
                    top.add(getattr(node, "name", None) or node.targets[0].id)
            for function in functions(tree):
                self.assertLessEqual(function.end_lineno - function.lineno + 1, 40, function.name)
                if function.name.startswith("__"):
                    self.assertIn(function.name, DOUBLE)
                else:
                    self.assertIsNotNone(ast.get_docstring(function), f"{path.name}: {function.name}")
                for name in bound_in(function):
                    self.assertNotIn(name, top, f"{path.name}: {function.name}")
                    self.assertFalse(hasattr(builtins, name), f"{path.name}: {name}")
                    self.assertNotIn(name, BARRED_NAMES)
                inner = [node for node in ast.walk(function) if isinstance(node, ast.FunctionDef)]
                self.assertEqual(len(inner), 1, function.name)

    def test_calls(self):
        own = {function.name for path, tree in trees() for function in functions(tree)}
        stored = {
            node.attr for path, tree in trees() for node in ast.walk(tree)
            if isinstance(node, ast.Attribute) and isinstance(node.ctx, ast.Store)}
        for path, tree in trees():
            for node in ast.walk(tree):
                if isinstance(node, ast.Name) and isinstance(node.ctx, ast.Load) and hasattr(builtins, node.id):
                    self.assertIn(node.id, BUILTINS, path.name)
                if isinstance(node, ast.Attribute):
                    if node.attr not in METHODS | own | stored:
                        self.tell(path, node, f"the attribute {node.attr}")
                    self.assertNotIn(node.attr, BARRED_NAMES)
                if isinstance(node, ast.Call) and isinstance(node.func, ast.Name) and node.func.id in TAKERS:
                    self.assertFalse(any(isinstance(one, ast.GeneratorExp) for one in node.args))

    def test_super(self):
        for path, tree in trees():
            calls = [node for node in ast.walk(tree) if isinstance(node, ast.Name) and node.id == "super"]
            plainly = [node for function in functions(tree) if function.name == "__init__" for node in function.body
                       if ast.unparse(node).startswith("super().__init__(")]
            self.assertEqual(len(calls), len(plainly), path.name)

    def test_sets(self):
        for path, tree in trees():
            sets = [node for node in ast.walk(tree) if isinstance(node, ast.Name) and node.id == "set"]
            sorts = [node for node in ast.walk(tree) if isinstance(node, ast.Call)
                     and getattr(node.func, "id", "") == "sorted" and isinstance(node.args[0], ast.Call)
                     and getattr(node.args[0].func, "id", "") == "set"]
            self.assertEqual(len(sets), len(sorts), path.name)

    def test_kept_things(self):
        for path, tree in trees():
            for node in ast.walk(tree):
                if isinstance(node, (ast.Assign, ast.Return)) and isinstance(node.value, ast.Call):
                    name = getattr(node.value.func, "id", getattr(node.value.func, "attr", ""))
                    self.assertNotIn(name, ("zip", "enumerate", "reversed", "range", "items", "keys", "values"))
                if isinstance(node, ast.Compare):
                    for sign, right in zip(node.ops, node.comparators):
                        if isinstance(sign, (ast.Is, ast.IsNot)):
                            self.assertTrue(isinstance(right, ast.Constant), path.name)

    def test_errors(self):
        own = {node.name for path, tree in trees() for node in ast.walk(tree) if isinstance(node, ast.ClassDef)}
        for path, tree in trees():
            for node in ast.walk(tree):
                if isinstance(node, ast.ExceptHandler):
                    self.assertIn(node.type.id, own, path.name)
                if isinstance(node, ast.Raise) and node.exc is not None:
                    self.assertIn(node.exc.func.id, own, path.name)
                if isinstance(node, ast.For):
                    gone = {one.id for one in ast.walk(node.iter) if isinstance(one, ast.Name)}
                    for inner in ast.walk(node):
                        if isinstance(inner, ast.Call) and isinstance(inner.func, ast.Attribute):
                            if inner.func.attr in ("append", "pop", "insert", "extend"):
                                self.assertNotIn(getattr(inner.func.value, "id", ""), gone, path.name)

    def test_words(self):
        for path, tree in trees():
            notes = {id(node.body[0].value) for node in ast.walk(tree)
                     if isinstance(node, (ast.Module, ast.FunctionDef, ast.ClassDef))
                     and isinstance(node.body[0], ast.Expr)}
            for node in ast.walk(tree):
                if isinstance(node, ast.Constant) and isinstance(node.value, str) and id(node) not in notes:
                    self.assertNotRegex(node.value, BARRED_WORDS, path.name)
                if isinstance(node, ast.Name):
                    self.assertNotRegex(node.id, BARRED_WORDS, path.name)

    def test_double_underscore_methods(self):
        for path, tree in trees():
            for function in functions(tree):
                if function.name in ("__eq__", "__len__"):
                    self.assertEqual([type(node).__name__ for node in function.body], ["Return"], path.name)

    def test_names_in_comprehensions(self):
        for path, tree in trees():
            for function in functions(tree):
                outer = {one.arg for one in ast.walk(function.args) if isinstance(one, ast.arg)}
                self.check_inner(path, function, outer)
                inner = self.names_of([node for node in ast.walk(function) if isinstance(node, COMPREHENSIONS)])
                plain = [node for node in ast.walk(function) if isinstance(node, (ast.For, ast.Assign))]
                bound = self.names_of(plain)
                for node in ast.walk(function):
                    if isinstance(node, COMPREHENSIONS):
                        deep = [one for one in ast.walk(node) if isinstance(one, COMPREHENSIONS) and one is not node]
                        self.assertFalse(self.names_of(deep) & bound, f"{path.name}:{node.lineno}")
                self.assertFalse(inner & outer, path.name)

    def names_of(self, nodes):
        """All names that the targets of loops, assignments and comprehensions bind."""
        found = set()
        for node in nodes:
            targets = [part.target for part in node.generators] if isinstance(node, COMPREHENSIONS) else (
                node.targets if isinstance(node, ast.Assign) else [node.target])
            found |= {one.id for target in targets for one in ast.walk(target) if isinstance(one, ast.Name)}
        return found

    def check_inner(self, path, node, outer):
        for inner in ast.iter_child_nodes(node):
            if isinstance(inner, (ast.ListComp, ast.DictComp)):
                mine = {one.id for part in inner.generators for one in ast.walk(part.target)
                        if isinstance(one, ast.Name)}
                self.assertFalse(mine & outer, f"{path.name}:{inner.lineno}: {mine & outer}")
                self.check_inner(path, inner, outer | mine)
            else:
                self.check_inner(path, inner, outer)


if __name__ == "__main__":
    unittest.main()
