"""Looks at the package's files by the rules of LANGUAGE.md, as far as a form can show that one is broken."""

import ast
import builtins
import pathlib
import re
import unittest

PACKAGE = pathlib.Path(__file__).resolve().parent.parent / "everyplan"

BUILTINS = set(
    "len range enumerate zip min max sum abs sorted reversed int str bool list tuple dict set frozenset isinstance ord "
    "repr any all divmod Exception ValueError TypeError KeyError IndexError LookupError ZeroDivisionError ArithmeticError "
    "OverflowError RuntimeError NotImplementedError AttributeError StopIteration".split()
)
ERRORS = {name for name in BUILTINS if name[0].isupper()}
METHODS = set(
    "append clear copy count endswith extend find get index insert isalnum isalpha isdigit islower isspace isupper items "
    "join keys ljust lower lstrip partition pop remove replace reverse rfind rjust rpartition rsplit rstrip setdefault split "
    "splitlines startswith strip update upper values zfill bit_length".split()
)
PYTHONS_OWN = set()
for kind in (str, int, list, tuple, dict, set, frozenset, bytes):
    PYTHONS_OWN.update(dir(kind))
CHANGING = {"append", "clear", "extend", "insert", "pop", "remove", "reverse", "setdefault", "update"}
BARRED_VALUES = set("items keys values pop update append clear extend insert remove reverse setdefault sort args encode format".split())
ALLOWED_VALUES = set("count index title find get join lower upper split strip copy add".split())
DUNDERS = {"__init__", "__eq__", "__repr__", "__str__", "__len__"}
WORDS_OUT = set(
    "type typing typing_extensions enum Enum IntEnum StrEnum Flag IntFlag Generic Protocol ABC ABCMeta namedtuple NamedTuple "
    "TypedDict TYPE_CHECKING abstractmethod".split()
)
NAMES_OUT = set(
    "register mro elements open input version_info with_traceback add_note attrgetter breakpoint builtins compile copyright "
    "credits delattr dir eval exec exit gc getattr globals hasattr help id importlib license locals methodcaller os quit "
    "setattr super type vars sys format format_map chr".split()
)
WALKED = {"zip", "enumerate", "reversed", "range"}
WALKERS = {"list", "tuple", "dict", "sorted", "sum", "any", "all", "enumerate", "zip"}
KEYWORDS = {"sorted": {"key", "reverse"}, "min": {"key", "default"}, "max": {"key", "default"}, "sum": {"start"},
            "enumerate": {"start"}, "zip": {"strict"}}
STATEMENTS = (
    ast.Assign, ast.AugAssign, ast.If, ast.While, ast.For, ast.Return, ast.Break, ast.Continue, ast.Pass, ast.Raise,
    ast.Try, ast.Expr, ast.FunctionDef,
)
EXPRESSIONS = (
    ast.Constant, ast.List, ast.Tuple, ast.Dict, ast.BinOp, ast.UnaryOp, ast.BoolOp, ast.Compare, ast.IfExp, ast.Call,
    ast.Attribute, ast.Subscript, ast.Slice, ast.ListComp, ast.JoinedStr, ast.FormattedValue, ast.Name, ast.Lambda, ast.Set,
)


class File:
    def __init__(self, path):
        self.path = path
        self.source = path.read_text("utf-8")
        self.tree = ast.parse(self.source)
        self.parents = {}
        for node in ast.walk(self.tree):
            for child in ast.iter_child_nodes(node):
                self.parents[child] = node
        self.imports = {}
        self.tops = {}
        for node in self.tree.body:
            if isinstance(node, ast.ImportFrom):
                for name in node.names:
                    self.imports[name.name] = node.module
            elif isinstance(node, (ast.FunctionDef, ast.ClassDef)):
                self.tops[node.name] = node
            elif isinstance(node, ast.Assign):
                self.tops[node.targets[0].id] = node

    def classes(self):
        return [node for node in self.tree.body if isinstance(node, ast.ClassDef)]


FILES = {path.stem: File(path) for path in sorted(PACKAGE.glob("*.py"))}


def is_plain_value(node, functions):
    if isinstance(node, ast.Constant):
        return node.value is None or isinstance(node.value, (bool, int, str))
    if isinstance(node, ast.Name):
        return node.id in functions
    if isinstance(node, (ast.List, ast.Tuple)):
        return all(is_plain_value(one, functions) for one in node.elts)
    if isinstance(node, ast.Dict):
        return all(is_plain_value(one, functions) for one in node.keys + node.values)
    return isinstance(node, ast.UnaryOp) and is_plain_value(node.operand, functions)


class Language(unittest.TestCase):
    def wrong(self, rule, file, node, why=""):
        self.fail(f"{rule}: {file.path.name}:{getattr(node, 'lineno', '?')} {why} {ast.unparse(node) if node else ''}")

    def nodes(self, *kinds):
        for file in FILES.values():
            for node in ast.walk(file.tree):
                if isinstance(node, kinds):
                    yield file, node

    def test_files(self):
        for path in PACKAGE.iterdir():
            if path.name != "__pycache__":
                self.assertRegex(path.name, r"^[a-z_][a-z0-9_]*\.py$")
                self.assertFalse(hasattr(builtins, path.stem) and path.stem != "__init__", path.name)
                self.assertNotRegex(path.stem, r"^(test.*|site|conftest|sitecustomize|usercustomize)$")
        self.assertIn("__init__", FILES)
        self.assertEqual([type(node) for node in FILES["__init__"].tree.body], [ast.Expr])

    def test_signs_and_sizes(self):
        for file in FILES.values():
            lines = file.source.split("\n")
            self.assertLessEqual(len(lines) - 1, 400, file.path.name)
            for number, line in enumerate(lines, 1):
                self.assertLessEqual(len(line), 120, (file.path.name, number))
                self.assertTrue(all(" " <= sign <= "~" for sign in line), (file.path.name, number))
            for word in re.findall(r"\w+", file.source):
                self.assertNotIn(word, WORDS_OUT, file.path.name)
                self.assertNotRegex(word, "dataclass|overload|contextmanager", file.path.name)
        for file, node in self.nodes(ast.FunctionDef):
            if node.end_lineno - node.lineno + 1 > 40:
                self.wrong("L10", file, node)

    def test_imports(self):
        for file, node in self.nodes(ast.Import, ast.ImportFrom):
            if isinstance(node, ast.Import) or node.level or node not in file.tree.body:
                self.wrong("L2", file, node)
            if not node.module.startswith("everyplan.") or any(name.asname for name in node.names):
                self.wrong("L2", file, node)
            target = FILES[node.module.split(".")[1]]
            for name in node.names:
                if name.name not in target.tops:
                    self.wrong("L16", file, node, name.name)
        draws = {name: {module.split(".")[1] for module in file.imports.values()} for name, file in FILES.items()}
        done = set()
        while len(done) < len(draws):
            free = [name for name in draws if name not in done and draws[name] <= done]
            self.assertTrue(free, "files that draw from one another")
            done.update(free)

    def test_imports_are_used(self):
        for file in FILES.values():
            used = {node.id for node in ast.walk(file.tree) if isinstance(node, ast.Name)}
            for name in file.imports:
                self.assertIn(name, used, file.path.name)

    def test_tops(self):
        for file in FILES.values():
            functions = set()
            names = []
            for place, node in enumerate(file.tree.body):
                if isinstance(node, ast.Expr):
                    self.assertTrue(place == 0 and isinstance(node.value.value, str), file.path.name)
                elif isinstance(node, (ast.FunctionDef, ast.ClassDef)):
                    functions.add(node.name)
                    names.append(node.name)
                elif isinstance(node, ast.Assign):
                    names.append(node.targets[0].id)
                    if not is_plain_value(node.value, functions):
                        self.wrong("L3", file, node)
                    if isinstance(node.value, (ast.List, ast.Dict)):
                        inner = [one for one in ast.walk(node.value) if isinstance(one, (ast.List, ast.Dict))]
                        if len(inner) > 1 and not isinstance(inner[1], ast.Load):
                            self.wrong("L15", file, node)
                elif not isinstance(node, ast.ImportFrom):
                    self.wrong("L3", file, node)
            names += list(file.imports)
            self.assertEqual(len(names), len(set(names)), file.path.name)

    def test_top_lists_are_only_read(self):
        for file in FILES.values():
            kept = {name for name, node in file.tops.items()
                    if isinstance(node, ast.Assign) and isinstance(node.value, (ast.List, ast.Dict))}
            for node in ast.walk(file.tree):
                if not isinstance(node, ast.Name) or node.id not in kept or node in [
                        one.targets[0] for one in file.tree.body if isinstance(one, ast.Assign)]:
                    continue
                above = file.parents[node]
                read = isinstance(above, ast.Subscript) and above.value is node and isinstance(above.ctx, ast.Load)
                read = read or isinstance(above, ast.Compare)
                read = read or isinstance(above, (ast.For, ast.comprehension)) and above.iter is node
                read = read or isinstance(above, ast.Attribute) and above.attr in ("get", "items", "keys", "values")
                read = read or isinstance(above, ast.Call) and isinstance(above.func, ast.Name) and above.func.id in (
                    "len", "list", "dict", "sorted")
                if not read:
                    self.wrong("L15", file, above)
            for name, module in file.imports.items():
                other = FILES[module.split(".")[1]].tops[name]
                self.assertFalse(isinstance(other, ast.Assign) and isinstance(other.value, (ast.List, ast.Dict)), name)

    def test_functions(self):
        for file, node in self.nodes(ast.FunctionDef, ast.Lambda):
            given = node.args
            if given.vararg or given.kwarg or given.kwonlyargs or given.posonlyargs:
                self.wrong("L4", file, node)
            if not all(is_plain_value(one, ()) for one in given.defaults):
                self.wrong("L4", file, node)
            if any(arg.annotation for arg in given.args):
                self.wrong("L21", file, node)
            if isinstance(node, ast.FunctionDef) and (node.decorator_list or node.returns):
                self.wrong("L4", file, node)

    def test_classes(self):
        methods = set()
        values = set()
        for file, node in self.nodes(ast.ClassDef):
            if node not in file.tree.body or len(node.bases) > 1 or node.keywords or node.decorator_list:
                self.wrong("L5", file, node)
            names = [one.name for one in node.body if isinstance(one, ast.FunctionDef)]
            if len(names) != len(set(names)):
                self.wrong("L18", file, node)
            for one in node.body:
                if not isinstance(one, (ast.FunctionDef, ast.Pass)):
                    self.wrong("L5", file, one)
            for name in names:
                if name.startswith("__"):
                    self.assertIn(name, DUNDERS)
                else:
                    self.assertTrue(name not in PYTHONS_OWN or name in METHODS | {"add", "discard"}, name)
                    methods.add(name)
        for file, node in self.nodes(ast.Attribute):
            if isinstance(node.ctx, ast.Store):
                if not isinstance(node.value, ast.Name) or node.value.id in file.tops or node.value.id in file.imports:
                    self.wrong("L18", file, node)
                self.assertTrue(node.attr not in PYTHONS_OWN or node.attr in ALLOWED_VALUES, node.attr)
                values.add(node.attr)
        self.assertEqual(methods & values, set())
        self.assertEqual(values & BARRED_VALUES, set())
        for file, node in self.nodes(ast.Name):
            classes = {one.name for one in file.classes()} | {
                name for name, module in file.imports.items()
                if isinstance(FILES[module.split(".")[1]].tops.get(name), ast.ClassDef)}
            if node.id in classes:
                above = file.parents[node]
                fine = isinstance(above, (ast.ClassDef, ast.ExceptHandler, ast.Raise))
                fine = fine or isinstance(above, ast.Call) and (
                    above.func is node or isinstance(above.func, ast.Name) and above.func.id == "isinstance")
                fine = fine or isinstance(above, ast.Attribute) and above.attr == "__init__"
                if not fine:
                    self.wrong("L18", file, above)

    def test_statements(self):
        for file, node in self.nodes(ast.stmt):
            if isinstance(node, (ast.ImportFrom, ast.ClassDef)):
                continue
            if not isinstance(node, STATEMENTS):
                self.wrong("L6", file, node)
            if isinstance(node, (ast.For, ast.While)) and node.orelse:
                self.wrong("L6", file, node)
            if isinstance(node, ast.Try) and node.finalbody:
                self.wrong("L6", file, node)
            if isinstance(node, ast.Assign) and (
                    len(node.targets) != 1 or isinstance(node.targets[0], (ast.Tuple, ast.List))):
                self.wrong("L6", file, node)
            if isinstance(node, ast.Expr) and not isinstance(node.value, ast.Call) and node is not file.tree.body[0]:
                self.wrong("L6", file, node)
            if isinstance(node, ast.Raise) and not isinstance(node.exc, ast.Call):
                self.wrong("L19", file, node)

    def test_handlers(self):
        own = {node.name for node in FILES["errors"].classes()}
        for file, node in self.nodes(ast.ExceptHandler):
            if not isinstance(node.type, ast.Name) or node.type.id not in own | {"KeyError", "ZeroDivisionError"}:
                self.wrong("L19", file, node, "look by eye")

    def test_expressions(self):
        for file, node in self.nodes(ast.expr):
            if not isinstance(node, EXPRESSIONS):
                self.wrong("L7", file, node)
            if isinstance(node, ast.Constant) and not (
                    node.value is None or isinstance(node.value, (bool, int, str))):
                self.wrong("L7", file, node)
            if isinstance(node, ast.Constant) and isinstance(node.value, str) and "%" in node.value:
                self.wrong("L27", file, node)
            if isinstance(node, ast.BinOp) and isinstance(node.op, (ast.Div, ast.Pow, ast.MatMult)):
                self.wrong("L7, L27", file, node)
            if isinstance(node, ast.ListComp) and (len(node.generators) != 1 or len(node.generators[0].ifs) > 1):
                self.wrong("L7", file, node)
            if isinstance(node, ast.FormattedValue):
                if not isinstance(node.value, ast.Name) or node.format_spec or node.conversion not in (-1, ord("r")):
                    self.wrong("L7", file, node)
            if isinstance(node, ast.Compare):
                sides = [node.left] + node.comparators
                for place, op in enumerate(node.ops):
                    if isinstance(op, (ast.Is, ast.IsNot)) and not any(
                            isinstance(side, ast.Constant) and side.value in (None, True, False)
                            for side in sides[place:place + 2]):
                        self.wrong("L20", file, node)

    def test_escapes(self):
        for file in FILES.values():
            for escape in re.findall(r"\\.", file.source):
                self.assertIn(escape, ("\\n", "\\t", "\\\\", "\\'", '\\"'), file.path.name)

    def test_names(self):
        for file, node in self.nodes(ast.Name, ast.arg, ast.FunctionDef, ast.ClassDef, ast.Attribute):
            name = getattr(node, "id", None) or getattr(node, "arg", None) or getattr(node, "attr", None) or node.name
            if name in NAMES_OUT:
                self.wrong("L17", file, node)
            if name.startswith("_") and name not in DUNDERS:
                self.wrong("L12", file, node)
            bound = isinstance(node, (ast.arg, ast.FunctionDef, ast.ClassDef)) or (
                isinstance(node, ast.Name) and isinstance(node.ctx, ast.Store))
            method = isinstance(node, ast.FunctionDef) and isinstance(file.parents[node], ast.ClassDef)
            if bound and not method:
                if hasattr(builtins, name):
                    self.wrong("L15", file, node)
                local = file.parents[node] is not file.tree and not (
                    isinstance(file.parents[node], ast.Assign) and file.parents[node] in file.tree.body)
                if local and (name in file.imports or name in file.tops):
                    self.wrong("L15", file, node)
            if isinstance(node, ast.Name) and hasattr(builtins, name) and name not in BUILTINS:
                self.wrong("L8", file, node)

    def test_builtins_are_called(self):
        for file, node in self.nodes(ast.Name):
            if node.id not in BUILTINS:
                continue
            above = file.parents[node]
            if node.id in ERRORS:
                continue
            called = isinstance(above, ast.Call) and above.func is node
            kinds = isinstance(above, (ast.Call, ast.Tuple)) and node.id in ("int", "str", "bool", "list", "tuple", "dict")
            if isinstance(above, ast.Call) and not called:
                kinds = kinds and isinstance(above.func, ast.Name) and above.func.id == "isinstance"
            key = isinstance(above, ast.keyword) and above.arg == "key"
            if not called and not kinds and not key:
                self.wrong("L22", file, above)

    def test_keywords(self):
        for file, node in self.nodes(ast.Call):
            if node.keywords:
                name = node.func.id if isinstance(node.func, ast.Name) else None
                for one in node.keywords:
                    if one.arg not in KEYWORDS.get(name, ()):
                        self.wrong("L22", file, node)

    def test_methods(self):
        own = {name for file in FILES.values() for one in file.classes()
               for name in [method.name for method in one.body if isinstance(method, ast.FunctionDef)]}
        for file, node in self.nodes(ast.Call):
            if isinstance(node.func, ast.Attribute) and node.func.attr not in METHODS | own:
                self.wrong("L25", file, node)
        for file, node in self.nodes(ast.Attribute):
            above = file.parents[node]
            if node.attr in METHODS | own and not (isinstance(above, ast.Call) and above.func is node):
                if node.attr not in ALLOWED_VALUES:
                    self.wrong("L25", file, above)

    def test_walked_at_once(self):
        for file, node in self.nodes(ast.Call):
            walked = isinstance(node.func, ast.Name) and node.func.id in WALKED
            walked = walked or isinstance(node.func, ast.Attribute) and node.func.attr in ("items", "keys", "values")
            if not walked:
                continue
            above = file.parents[node]
            fine = isinstance(above, (ast.For, ast.comprehension)) and above.iter is node
            if isinstance(above, ast.Call) and isinstance(above.func, ast.Name):
                fine = fine or above.func.id in WALKERS and above.args[0] is node
                fine = fine or above.func.id in ("min", "max") and above.args == [node]
            if not fine:
                self.wrong("L23", file, above)

    def test_walked_things_stay(self):
        for file, node in self.nodes(ast.For):
            walked = node.iter
            while isinstance(walked, ast.Call) and walked.args:
                walked = walked.args[0]
            if isinstance(walked, ast.Call) and isinstance(walked.func, ast.Attribute):
                walked = walked.func.value
            shown = ast.unparse(walked)
            for line in node.body:
                for one in ast.walk(line):
                    if isinstance(one, ast.Call) and isinstance(one.func, ast.Attribute) and one.func.attr in CHANGING:
                        if ast.unparse(one.func.value) == shown:
                            self.wrong("L23", file, one)
                    if isinstance(one, ast.Subscript) and isinstance(one.ctx, ast.Store):
                        if ast.unparse(one.value) == shown:
                            self.wrong("L23", file, one)

    def test_sets(self):
        for file, node in self.nodes(ast.Call, ast.Set):
            if isinstance(node, ast.Call) and not (isinstance(node.func, ast.Name) and node.func.id in ("set", "frozenset")):
                continue
            above = file.parents[node]
            while isinstance(above, ast.BinOp):
                above = file.parents[above]
            fine = isinstance(above, ast.Compare)
            fine = fine or isinstance(above, ast.Call) and isinstance(above.func, ast.Name) and (
                above.func.id in ("sorted", "len") and not above.keywords)
            if not fine:
                self.wrong("L24", file, above)

    def test_one_lambda_a_line(self):
        lines = [(file.path.name, node.lineno, ast.unparse(node.args)) for file, node in self.nodes(ast.Lambda)]
        self.assertEqual(len(lines), len(set(lines)))


if __name__ == "__main__":
    unittest.main()
