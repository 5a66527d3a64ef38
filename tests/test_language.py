"""The rules of the language that can be seen in the text of the package.

This is narrower than the rules in several places: what the package does not need, such as
annotations or generators, is refused here altogether until it is needed.
"""

import ast
import builtins
import os
import re
import unittest

FOLDER = os.path.join(os.path.dirname(os.path.dirname(os.path.abspath(__file__))), "gatewarden")

BUILTINS = {
    "len", "range", "enumerate", "zip", "min", "max", "sum", "abs", "sorted", "reversed", "int", "str", "bool", "list",
    "tuple", "dict", "set", "isinstance", "ord", "repr", "any", "all", "divmod", "type", "ValueError",
}
METHODS = {
    "append", "clear", "copy", "count", "endswith", "extend", "find", "get", "index", "insert", "isalnum", "isalpha",
    "isdigit", "islower", "isspace", "isupper", "items", "join", "keys", "ljust", "lower", "lstrip", "partition",
    "pop", "remove", "replace", "reverse", "rfind", "rjust", "rpartition", "rsplit", "rstrip", "setdefault", "split",
    "splitlines", "startswith", "strip", "update", "upper", "values", "zfill", "bit_length", "add", "discard",
}
BUILTIN_NAMES = {name for name in vars(builtins) if not name.startswith("_")}
BARRED_NAMES = {
    "mro", "elements", "open", "input", "law", "version_info", "with_traceback", "add_note", "register", "attrgetter",
    "breakpoint", "builtins", "compile", "copyright", "credits", "delattr", "dir", "eval", "exec", "exit", "gc",
    "getattr", "globals", "hasattr", "help", "id", "importlib", "license", "locals", "methodcaller", "os", "quit",
    "setattr", "super", "vars", "sys",
}
BARRED_WORDS = re.compile(
    r"\b(typing|typing_extensions|enum|Enum|IntEnum|StrEnum|Flag|IntFlag|Generic|Protocol|ABC|ABCMeta|namedtuple"
    r"|NamedTuple|TypedDict|TYPE_CHECKING|abstractmethod|_wall|_WallAttr)\b|dataclass|overload|contextmanager|__class__")
MODULE_LEVEL = (ast.ImportFrom, ast.FunctionDef, ast.ClassDef, ast.Assign, ast.Expr)
STATEMENTS = (
    ast.Assign, ast.AugAssign, ast.If, ast.While, ast.For, ast.Return, ast.Break, ast.Continue, ast.Pass, ast.Raise,
    ast.Delete, ast.Expr, ast.FunctionDef, ast.Try,
)
# What may be imported from the library, each to be iterated at once.
LIBRARY = {"itertools": {"combinations"}}


def sources():
    for name in sorted(os.listdir(FOLDER)):
        if name.endswith(".py"):
            with open(os.path.join(FOLDER, name), "rb") as file:
                text = file.read().decode("utf-8")
            yield name, text, ast.parse(text)


def bound_names(tree):
    """All names that a file gives to something, in functions too."""
    for node in ast.walk(tree):
        if isinstance(node, (ast.FunctionDef, ast.ClassDef)):
            yield node.name
        elif isinstance(node, ast.arg):
            yield node.arg
        elif isinstance(node, ast.Name) and not isinstance(node.ctx, ast.Load):
            yield node.id
        elif isinstance(node, ast.alias):
            yield node.asname or node.name
        elif isinstance(node, ast.ExceptHandler) and node.name:
            yield node.name


def own_errors():
    """The error classes that the package defines."""
    return {node.name for name, text, tree in sources() if name == "errors.py" for node in tree.body
            if isinstance(node, ast.ClassDef)}


def local_names(function):
    """The parameters, local variables and nested functions of a function."""
    for node in ast.walk(function):
        if isinstance(node, ast.arg):
            yield node.arg
        elif isinstance(node, ast.Name) and not isinstance(node.ctx, ast.Load):
            yield node.id
        elif isinstance(node, ast.FunctionDef) and node is not function:
            yield node.name
        elif isinstance(node, ast.ExceptHandler) and node.name:
            yield node.name


def own_methods():
    """The methods that the classes of the package define."""
    return {
        part.name for name, text, tree in sources() for node in tree.body if isinstance(node, ast.ClassDef)
        for part in node.body if isinstance(part, ast.FunctionDef)
    }


def own_names(tree):
    """The names that a file itself defines at module level."""
    for node in tree.body:
        if isinstance(node, (ast.FunctionDef, ast.ClassDef)):
            yield node.name
        elif isinstance(node, ast.Assign):
            yield from (target.id for target in node.targets)


def module_names(tree):
    """The names bound at module level, each as often as it is bound."""
    yield from own_names(tree)
    for node in tree.body:
        if isinstance(node, ast.ImportFrom):
            yield from (alias.asname or alias.name for alias in node.names)


class Texts(unittest.TestCase):
    def test_sizes_and_characters(self):
        for name, text, tree in sources():
            lines = text.split("\n")
            self.assertLessEqual(len(lines) - 1, 399, name)
            for line in lines:
                self.assertLessEqual(len(line), 120, (name, line))
            self.assertTrue(all(sign == "\n" or " " <= sign <= "~" for sign in text), name)
            self.assertRegex(name, r"^(__init__|[a-z][a-z0-9_]*)\.py$")
            self.assertNotIn(name[:-3], BUILTIN_NAMES, name)
            for node in ast.walk(tree):
                if isinstance(node, ast.FunctionDef):
                    self.assertLessEqual(node.end_lineno - node.lineno + 1, 40, (name, node.name))

    def test_words(self):
        for name, text, tree in sources():
            code = re.sub(r"#.*", "", text)
            self.assertIsNone(BARRED_WORDS.search(code), name)
            uses = [node for node in ast.walk(tree) if isinstance(node, ast.Name) and node.id == "type"]
            compared = [
                node.left.func for node in ast.walk(tree)
                if isinstance(node, ast.Compare) and isinstance(node.left, ast.Call)
                and len(node.comparators) == 1 and isinstance(node.comparators[0], ast.Name)
            ]
            for use in uses:
                self.assertIn(use, compared, name)

    def test_strings(self):
        for name, text, tree in sources():
            docs = [
                node.body[0].value for node in ast.walk(tree)
                if isinstance(node, (ast.Module, ast.FunctionDef, ast.ClassDef)) and node.body
                and isinstance(node.body[0], ast.Expr)
            ]
            for node in ast.walk(tree):
                if isinstance(node, ast.Constant):
                    self.assertNotIsInstance(node.value, (float, complex, bytes))
                    if isinstance(node.value, str) and node not in docs:
                        self.assertNotIn("%", node.value, name)
                        self.assertNotIn("__", node.value, name)


class Trees(unittest.TestCase):
    def test_imports(self):
        trees = {name[:-3]: tree for name, text, tree in sources()}
        leads = {}
        for name, tree in trees.items():
            leads[name] = []
            nodes = [node for node in ast.walk(tree) if isinstance(node, (ast.Import, ast.ImportFrom))]
            behind = False
            for node in tree.body:
                if isinstance(node, ast.ImportFrom):
                    self.assertFalse(behind, name)
                elif not isinstance(node, ast.Expr):
                    behind = True
            for node in nodes:
                self.assertIn(node, tree.body)
                self.assertIsInstance(node, ast.ImportFrom)
                if node.module in LIBRARY:
                    self.assertLessEqual({alias.name for alias in node.names}, LIBRARY[node.module])
                    self.assertEqual([alias.asname for alias in node.names], [None] * len(node.names))
                    continue
                package, _, module = node.module.partition(".")
                self.assertEqual((package, node.level), ("gatewarden", 0))
                leads[name].append(module)
                for alias in node.names:
                    self.assertIsNone(alias.asname)
                    self.assertIn(alias.name, list(own_names(trees[module])), (name, alias.name))
                    used = [item for item in ast.walk(tree) if isinstance(item, ast.Name) and item.id == alias.name]
                    self.assertTrue(used, (name, alias.name))
        self.assertFalse(leads["__init__"])
        done = []
        while len(done) < len(leads):
            free = [name for name in leads if name not in done and set(leads[name]) <= set(done)]
            self.assertTrue(free, "files import from each other")
            done.extend(free)

    def test_statements(self):
        for name, text, tree in sources():
            for node in tree.body:
                self.assertIsInstance(node, MODULE_LEVEL, (name, node))
                if isinstance(node, ast.Expr):
                    self.assertIsInstance(node.value, ast.Constant)
                if isinstance(node, ast.Assign):
                    self.assertEqual(len(node.targets), 1)
                    self.assertIsInstance(node.targets[0], ast.Name)
                    above = [other.name for other in tree.body
                             if isinstance(other, ast.FunctionDef) and other.lineno < node.lineno]
                    for part in ast.walk(node.value):
                        if isinstance(part, ast.Name):
                            self.assertIn(part.id, above, name)
                        elif not isinstance(part, ast.Load):
                            self.assertIsInstance(part, (ast.Constant, ast.List, ast.Tuple, ast.Dict), name)
            for node in ast.walk(tree):
                if isinstance(node, ast.FunctionDef):
                    self.assertEqual(node.decorator_list, [])
                    self.assertIsNone(node.returns)
                    self.assertTrue(all(arg.annotation is None for arg in node.args.args))
                    for part in ast.walk(node):
                        if isinstance(part, ast.stmt):
                            self.assertIsInstance(part, STATEMENTS, (name, node.name))
                if isinstance(node, ast.Expr) and not isinstance(node.value, ast.Constant):
                    self.assertIsInstance(node.value, ast.Call, name)
                self.assertNotIsInstance(node, (ast.Yield, ast.YieldFrom, ast.Div, ast.AnnAssign, ast.Global), name)

    def test_names(self):
        for name, text, tree in sources():
            for bound in bound_names(tree):
                self.assertNotIn(bound, BARRED_NAMES, name)
                self.assertNotIn(bound, BUILTIN_NAMES, name)
                if bound != "__init__":
                    self.assertRegex(bound, r"^(_|_?[A-Za-z][A-Za-z0-9_]*)$")
                    self.assertNotRegex(
                        bound, r"^(_wall|_pe_|_dcw_|_enum_|_cm_|_twin_re_|_lay_|_law_|_stub_|_sre|_WallAttr"
                        r"|(_cold|_tuplegetter|_outside|_record|_written_out|_member_names)[0-9_]*$)")
            names = list(module_names(tree))
            self.assertEqual(len(names), len(set(names)), name)
            fixed = {
                node.name for node in tree.body if isinstance(node, ast.ClassDef)
            } | {alias.name for node in tree.body if isinstance(node, ast.ImportFrom) for alias in node.names}
            functions = [node for node in ast.walk(tree) if isinstance(node, ast.FunctionDef)]
            for function in functions:
                self.assertEqual(fixed & set(local_names(function)), set(), (name, function.name))
            reads = [node.id for node in ast.walk(tree) if isinstance(node, ast.Name) and isinstance(node.ctx, ast.Load)]
            self.assertNotIn("_", reads, name)
            known = set(bound_names(tree)) | BUILTINS
            for read in reads:
                self.assertIn(read, known, name)

    def test_errors_that_are_caught(self):
        known = own_errors()
        for name, text, tree in sources():
            for node in ast.walk(tree):
                if isinstance(node, ast.Try):
                    self.assertEqual((node.finalbody, node.orelse), ([], []), name)
                    for handler in node.handlers:
                        self.assertIsInstance(handler.type, ast.Name, name)
                        self.assertIn(handler.type.id, known, name)
                if isinstance(node, ast.FunctionDef):
                    caught = [part.name for part in ast.walk(node) if isinstance(part, ast.ExceptHandler) and part.name]
                    stored = [part.id for part in ast.walk(node)
                              if isinstance(part, ast.Name) and not isinstance(part.ctx, ast.Load)]
                    stored += [part.arg for part in ast.walk(node) if isinstance(part, ast.arg)]
                    self.assertEqual(set(caught) & set(stored), set(), (name, node.name))

    def test_what_is_iterated_at_once(self):
        names = {name for module in LIBRARY.values() for name in module}
        for name, text, tree in sources():
            loops = [node.iter for node in ast.walk(tree) if isinstance(node, (ast.For, ast.comprehension))]
            calls = [node for node in ast.walk(tree) if isinstance(node, ast.Call)]
            for node in ast.walk(tree):
                if isinstance(node, ast.Name) and node.id in names:
                    [call] = [call for call in calls if call.func is node]
                    self.assertIn(call, loops, name)

    def test_lambdas(self):
        for name, text, tree in sources():
            lines = [node.lineno for node in ast.walk(tree) if isinstance(node, ast.Lambda)]
            self.assertEqual(len(lines), len(set(lines)), name)

    def test_sets_are_not_kept(self):
        for name, text, tree in sources():
            for node in ast.walk(tree):
                if isinstance(node, (ast.For, ast.comprehension)):
                    self.assertNotIsInstance(node.iter, (ast.Set, ast.SetComp), name)
                    if isinstance(node.iter, ast.Call) and isinstance(node.iter.func, ast.Name):
                        self.assertNotEqual(node.iter.func.id, "set", name)

    def test_lists_at_module_level_are_only_read(self):
        kept = {
            target.id for name, text, tree in sources() for node in tree.body if isinstance(node, ast.Assign)
            for target in node.targets if isinstance(node.value, (ast.List, ast.Dict))
        }
        self.assertIn("FIELDS", kept)
        for name, text, tree in sources():
            allowed = []
            for node in ast.walk(tree):
                if isinstance(node, (ast.Subscript, ast.Attribute)) and isinstance(node.ctx, ast.Load):
                    allowed.append(node.value)
                elif isinstance(node, (ast.For, ast.comprehension)):
                    allowed.append(node.iter)
                elif isinstance(node, ast.Compare):
                    allowed.extend(node.comparators)
                elif isinstance(node, ast.Call) and isinstance(node.func, ast.Name) and node.func.id in BUILTINS:
                    allowed.extend(node.args)
            for node in ast.walk(tree):
                if isinstance(node, ast.Name) and node.id in kept and isinstance(node.ctx, ast.Load):
                    self.assertIn(node, allowed, (name, node.id, node.lineno))

    def test_expressions(self):
        known = METHODS | own_methods()
        for name, text, tree in sources():
            for node in ast.walk(tree):
                where = (name, getattr(node, "lineno", 0))
                if isinstance(node, ast.BinOp) and isinstance(node.op, ast.Pow):
                    self.assertIsInstance(node.right, ast.Constant, where)
                if isinstance(node, ast.Compare):
                    for operator, other in zip(node.ops, node.comparators):
                        if isinstance(operator, (ast.Is, ast.IsNot)):
                            self.assertIsInstance(other, ast.Constant, where)
                            self.assertIn(other.value, (None, True, False), where)
                if isinstance(node, ast.Call):
                    self.assertIsInstance(node.func, (ast.Name, ast.Attribute), where)
                    if isinstance(node.func, ast.Attribute):
                        self.assertIn(node.func.attr, known, where)
                        self.assertEqual(node.keywords, [], where)
                if isinstance(node, (ast.Set, ast.SetComp, ast.GeneratorExp)):
                    parents = [
                        parent for parent in ast.walk(tree)
                        if isinstance(parent, ast.Call) and node in parent.args
                        and isinstance(parent.func, ast.Name)
                        and parent.func.id in ("sorted", "len", "all", "any", "sum", "min", "max", "tuple", "dict")
                    ]
                    self.assertTrue(parents, where)

    def test_classes_and_errors(self):
        own = own_methods()
        for name, text, tree in sources():
            for node in ast.walk(tree):
                if isinstance(node, ast.ClassDef):
                    self.assertIn(node, tree.body)
                    self.assertEqual(node.decorator_list, [])
                    for part in node.body:
                        self.assertTrue(isinstance(part, ast.FunctionDef) or part is node.body[0], name)
                if isinstance(node, ast.Raise):
                    self.assertIsInstance(node.exc, ast.Call, name)
                if isinstance(node, ast.Attribute) and isinstance(node.ctx, ast.Store):
                    self.assertIsInstance(node.value, ast.Name)
                    self.assertNotIn(node.attr, METHODS | own, name)
                    self.assertNotIn(node.attr, BARRED_NAMES, name)
        self.assertFalse((own - {"__init__"}) & METHODS)


if __name__ == "__main__":
    unittest.main()
