"""The package's files against the rules of LANGUAGE.md that can be seen in the written form."""

import ast
import builtins
import pathlib
import re
import unittest

FOLDER = pathlib.Path(__file__).resolve().parent.parent / "surejourney"
FILES = sorted(FOLDER.rglob("*.py"))
TREES = {path.stem: ast.parse(path.read_text("ascii")) for path in FILES}

OWN = set(
    "len range enumerate zip min max sum abs sorted reversed int str bool list tuple dict set frozenset isinstance ord "
    "repr any all divmod Exception ValueError TypeError KeyError IndexError LookupError ZeroDivisionError "
    "ArithmeticError OverflowError RuntimeError NotImplementedError AttributeError StopIteration".split()
)
METHODS = set(
    "append clear copy count endswith extend find get index insert isalnum isalpha isdigit islower isspace isupper "
    "items join keys ljust lower lstrip partition pop remove replace reverse rfind rjust rpartition rsplit rstrip "
    "setdefault split splitlines startswith strip update upper values zfill bit_length".split()
)
NOT_NAMES = set(
    "register mro elements open input version_info with_traceback add_note attrgetter breakpoint builtins compile "
    "copyright credits delattr dir eval exec exit gc getattr globals hasattr help id importlib license locals "
    "methodcaller os quit setattr super sys type vars __name__ format format_map".split()
)
NOT_WORDS = re.compile(
    r"\b(type|typing|typing_extensions|enum|Enum|IntEnum|StrEnum|Flag|IntFlag|Generic|Protocol|ABC|ABCMeta|namedtuple|"
    r"NamedTuple|TypedDict|TYPE_CHECKING|abstractmethod)\b|dataclass|overload|contextmanager"
)
STATEMENTS = (
    ast.Assign, ast.AugAssign, ast.If, ast.While, ast.For, ast.Return, ast.Break, ast.Continue, ast.Pass, ast.Raise,
    ast.Try, ast.Expr, ast.FunctionDef, ast.ClassDef, ast.ImportFrom,
)
EXPRESSIONS = (
    ast.Constant, ast.Name, ast.List, ast.Tuple, ast.Dict, ast.BinOp, ast.UnaryOp, ast.BoolOp, ast.Compare, ast.IfExp,
    ast.Call, ast.Attribute, ast.Subscript, ast.Slice, ast.ListComp, ast.Lambda,
)


def all_nodes():
    return [(stem, node) for stem, tree in TREES.items() for node in ast.walk(tree)]


def nodes_of(*kinds):
    return [(stem, node) for stem, node in all_nodes() if isinstance(node, kinds)]


def is_plain(node, above):
    if isinstance(node, ast.UnaryOp):
        return isinstance(node.op, ast.USub) and is_plain(node.operand, above)
    if isinstance(node, ast.Name):
        return node.id in above
    if isinstance(node, ast.Dict):
        return all(is_plain(part, above) for part in node.keys + node.values)
    if isinstance(node, (ast.List, ast.Tuple)):
        return all(is_plain(part, above) for part in node.elts)
    return isinstance(node, ast.Constant)


def top_names(tree):
    names = []
    for node in tree.body:
        if isinstance(node, (ast.FunctionDef, ast.ClassDef)):
            names.append(node.name)
        if isinstance(node, ast.Assign):
            names.append(node.targets[0].id)
    return names


def imported(tree):
    return [name.name for node in tree.body if isinstance(node, ast.ImportFrom) for name in node.names]


def bound_within(tree):
    """The names of parameters and locals."""
    names = [node.arg for node in ast.walk(tree) if isinstance(node, ast.arg)]
    names += [node.name for node in ast.walk(tree) if isinstance(node, ast.ExceptHandler) and node.name]
    for function in ast.walk(tree):
        if isinstance(function, ast.FunctionDef):
            stored = [node for node in ast.walk(function) if isinstance(node, ast.Name)]
            names += [node.id for node in stored if isinstance(node.ctx, ast.Store)]
    return names


class Language(unittest.TestCase):
    def test_files(self):
        for path in FOLDER.rglob("*"):
            if "__pycache__" not in path.parts:
                self.assertRegex(path.name, r"^([a-z][a-z0-9_]*|__init__)\.py$")
                self.assertNotIn(path.stem, dir(builtins))
        self.assertTrue((FOLDER / "__init__.py").is_file())

    def test_signs_words_and_sizes(self):
        for path in FILES:
            content = path.read_text("ascii")
            self.assertRegex(content, r"\A[ -~\n]*\Z")
            self.assertIsNone(NOT_WORDS.search(content), path)
            lines = content.split("\n")
            self.assertLessEqual(len(lines), 399, path)
            self.assertLessEqual(max(len(line) for line in lines), 120, path)
        for stem, node in nodes_of(ast.FunctionDef):
            self.assertLessEqual(node.end_lineno - node.lineno + 1, 40, (stem, node.name))

    def test_imports(self):
        drawn = {stem: set() for stem in TREES}
        for stem, node in nodes_of(ast.Import, ast.ImportFrom):
            self.assertIsInstance(node, ast.ImportFrom)
            self.assertIn(node, TREES[stem].body)
            package, other = node.module.split(".")
            self.assertEqual((package, node.level), ("surejourney", 0))
            drawn[stem].add(other)
            for name in node.names:
                self.assertIsNone(name.asname)
                self.assertIn(name.name, top_names(TREES[other]))
        while drawn:
            free = [stem for stem, others in drawn.items() if not others & set(drawn)]
            self.assertTrue(free, drawn)
            drawn = {stem: others for stem, others in drawn.items() if stem not in free}
        self.assertEqual([type(node) for node in TREES["__init__"].body], [ast.Expr])

    def test_top_of_a_module(self):
        for stem, tree in TREES.items():
            above = []
            self.assertIsInstance(tree.body[0].value, ast.Constant)
            for node in tree.body[1:]:
                self.assertIsInstance(node, (ast.ImportFrom, ast.FunctionDef, ast.ClassDef, ast.Assign))
                if isinstance(node, ast.FunctionDef):
                    above.append(node.name)
                if isinstance(node, ast.Assign):
                    self.assertTrue(is_plain(node.value, above), (stem, node.lineno))
            names = top_names(tree) + imported(tree)
            self.assertEqual(len(names), len(set(names)), stem)

    def test_functions_and_classes(self):
        for stem, node in nodes_of(ast.FunctionDef, ast.Lambda):
            arguments = node.args
            self.assertFalse(arguments.vararg or arguments.kwarg or arguments.kwonlyargs or arguments.posonlyargs)
            self.assertFalse(arguments.defaults, (stem, node.lineno))
        for stem, node in nodes_of(ast.FunctionDef, ast.ClassDef):
            self.assertEqual(node.decorator_list, [])
        for stem, node in nodes_of(ast.ClassDef):
            self.assertIn(node, TREES[stem].body)
            self.assertLessEqual(len(node.bases), 1)
            self.assertEqual([part for part in node.body if not isinstance(part, (ast.FunctionDef, ast.Pass))], [])

    def test_statements_and_expressions(self):
        for stem, node in all_nodes():
            if isinstance(node, ast.stmt):
                self.assertIsInstance(node, STATEMENTS, (stem, node.lineno))
            if isinstance(node, ast.expr):
                self.assertIsInstance(node, EXPRESSIONS, (stem, node.lineno))
        for stem, node in nodes_of(ast.Assign):
            self.assertEqual(len(node.targets), 1)
            self.assertNotIsInstance(node.targets[0], (ast.Tuple, ast.List), (stem, node.lineno))
        for stem, node in nodes_of(ast.For, ast.While):
            self.assertEqual(node.orelse, [])
        for stem, node in nodes_of(ast.Try):
            self.assertEqual(node.finalbody, [])
        for stem, node in nodes_of(ast.Expr):
            if node not in TREES[stem].body:
                self.assertIsInstance(node.value, ast.Call, (stem, node.lineno))
        for stem, node in nodes_of(ast.ListComp):
            self.assertTrue(len(node.generators) == 1 and len(node.generators[0].ifs) <= 1)
        for stem, node in nodes_of(ast.BinOp, ast.AugAssign):
            self.assertNotIsInstance(node.op, (ast.Div, ast.Pow, ast.MatMult))
        for stem, node in nodes_of(ast.Constant):
            self.assertIsInstance(node.value, (int, str, bool, type(None)))
            self.assertNotIn("%", str(node.value))

    def test_names(self):
        for stem, tree in TREES.items():
            within = bound_within(tree)
            outside = set(top_names(tree) + imported(tree))
            for name in within + sorted(outside):
                self.assertRegex(name, r"^[A-Za-z][A-Za-z0-9_]*$")
                self.assertNotIn(name, dir(builtins), stem)
            self.assertEqual(set(within) & outside, set(), stem)
            for node in ast.walk(tree):
                if isinstance(node, ast.Name):
                    self.assertIn(node.id, OWN | outside | set(within), (stem, node.lineno))
                    self.assertNotIn(node.id, NOT_NAMES)

    def test_attributes(self):
        methods = set()
        values = set()
        for stem, tree in TREES.items():
            for node in ast.walk(tree):
                if isinstance(node, ast.ClassDef):
                    methods |= {part.name for part in node.body if isinstance(part, ast.FunctionDef)}
                if isinstance(node, ast.Attribute) and isinstance(node.ctx, ast.Store):
                    values.add(node.attr)
        self.assertEqual(methods & values, set())
        pythons = {name for kind in (str, int, list, dict, set, bytes, tuple) for name in dir(kind)}
        self.assertEqual((methods - {"__init__"} | values) & (pythons | NOT_NAMES), set())
        called = {id(node.func) for stem, node in nodes_of(ast.Call)}
        for stem, node in nodes_of(ast.Attribute):
            known = METHODS | methods if id(node) in called else values
            self.assertIn(node.attr, known, (stem, node.lineno))

    def test_is_and_errors(self):
        for stem, node in nodes_of(ast.Compare):
            if any(isinstance(sign, (ast.Is, ast.IsNot)) for sign in node.ops):
                self.assertTrue(all(isinstance(part, ast.Constant) for part in node.comparators))
        own = {node.name for stem, node in nodes_of(ast.ClassDef) if stem == "refusals"}
        for stem, node in nodes_of(ast.ExceptHandler):
            self.assertIn(node.type.id, own)
        for stem, node in nodes_of(ast.Raise):
            self.assertIn(node.exc.func.id, own)

    def test_walked_at_once(self):
        places = set()
        for stem, node in all_nodes():
            if isinstance(node, (ast.For, ast.comprehension)):
                places.add(id(node.iter))
            if isinstance(node, ast.Call) and isinstance(node.func, ast.Name) and node.args:
                if node.func.id in {"list", "tuple", "dict", "sorted", "sum", "any", "all", "enumerate", "zip"}:
                    places.add(id(node.args[0]))
        for stem, node in nodes_of(ast.Call):
            if isinstance(node.func, ast.Name) and node.func.id in {"zip", "enumerate", "reversed", "range"}:
                self.assertIn(id(node), places, (stem, node.lineno))

    def test_sets_and_keywords(self):
        straight = set()
        for stem, node in nodes_of(ast.Call):
            if isinstance(node.func, ast.Name) and node.func.id in {"sorted", "len"} and not node.keywords:
                straight.update(id(part) for part in node.args)
        allowed = {"sorted": {"key", "reverse"}, "min": {"key", "default"}, "max": {"key", "default"}}
        for stem, node in nodes_of(ast.Call):
            name = node.func.id if isinstance(node.func, ast.Name) else ""
            if name in {"set", "frozenset"}:
                self.assertIn(id(node), straight, (stem, node.lineno))
            self.assertLessEqual({word.arg for word in node.keywords}, allowed.get(name, set()), (stem, node.lineno))

    def test_lists_and_dicts_of_the_top_are_only_read(self):
        read = {id(node.value) for stem, node in nodes_of(ast.Subscript) if isinstance(node.ctx, ast.Load)}
        for stem, tree in TREES.items():
            kept = [node for node in tree.body if isinstance(node, ast.Assign)]
            kept = [node for node in kept if isinstance(node.value, (ast.List, ast.Dict, ast.Tuple))]
            for node in kept:
                inner = list(ast.walk(node.value))[1:]
                self.assertFalse([part for part in inner if isinstance(part, (ast.List, ast.Dict))], stem)
            names = {node.targets[0].id for node in kept}
            for other, node in nodes_of(ast.Name):
                if node.id in names and isinstance(node.ctx, ast.Load):
                    self.assertIn(id(node), read, (other, node.lineno))

    def test_functions_and_classes_are_called_where_they_stand(self):
        called = {id(node.func) for stem, node in nodes_of(ast.Call)}
        functions = {name for tree in TREES.values() for name in top_names(tree) if name == name.lower()}
        classes = {node.name for stem, node in nodes_of(ast.ClassDef)}
        handlers = {id(part) for stem, node in nodes_of(ast.Dict) for part in node.values}
        bases = {id(base) for stem, node in nodes_of(ast.ClassDef) for base in node.bases}
        errors = {id(node.type) for stem, node in nodes_of(ast.ExceptHandler)}
        for stem, node in nodes_of(ast.Name):
            if node.id in classes | OWN and isinstance(node.ctx, ast.Load):
                self.assertIn(id(node), called | bases | errors, (stem, node.lineno))
            if node.id in functions and isinstance(node.ctx, ast.Load):
                self.assertIn(id(node), called | handlers, (stem, node.lineno))


if __name__ == "__main__":
    unittest.main()
