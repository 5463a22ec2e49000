"""The rules of LANGUAGE.md that can be seen from the form of the package's files alone."""

import ast
import builtins
import pathlib
import re
import unittest

PACKAGE = pathlib.Path(__file__).resolve().parent.parent / "callfold"

STATEMENTS = (
    ast.Assign, ast.AugAssign, ast.If, ast.While, ast.For, ast.Return, ast.Break, ast.Continue, ast.Pass, ast.Raise,
    ast.Try, ast.Expr, ast.FunctionDef, ast.ClassDef, ast.ImportFrom,
)
EXPRESSIONS = (
    ast.Constant, ast.List, ast.Tuple, ast.Dict, ast.Set, ast.BinOp, ast.UnaryOp, ast.BoolOp, ast.Compare, ast.IfExp,
    ast.Call, ast.Attribute, ast.Subscript, ast.Slice, ast.ListComp, ast.JoinedStr, ast.FormattedValue, ast.Name,
    ast.Lambda,
)
OWN_NAMES_OF_PYTHON = """
    len range enumerate zip min max sum abs sorted reversed int str bool list tuple dict set frozenset isinstance ord
    repr any all divmod Exception ValueError TypeError KeyError IndexError LookupError ZeroDivisionError
    ArithmeticError OverflowError RuntimeError NotImplementedError StopIteration
""".split()
METHODS_OF_PYTHON = """
    append clear copy count endswith extend find get index insert isalnum isalpha isdigit islower isspace isupper
    items join keys ljust lower lstrip partition pop remove replace reverse rfind rjust rpartition rsplit rstrip
    setdefault split splitlines startswith strip update upper values zfill bit_length __init__
""".split()
WORDS_OUT = """
    type typing typing_extensions enum Enum IntEnum StrEnum Flag IntFlag Generic Protocol ABC ABCMeta namedtuple
    NamedTuple TypedDict TYPE_CHECKING abstractmethod
""".split()
NAMES_OUT = """
    register mro elements open input version_info with_traceback add_note format format_map args encode
""".split()


def modules():
    for path in sorted(PACKAGE.glob("*.py")):
        text = path.read_text(encoding="utf-8")
        yield path.name, text, ast.parse(text)


def nodes(*kinds):
    for name, text, tree in modules():
        for node in ast.walk(tree):
            if isinstance(node, kinds):
                yield f"{name}:{getattr(node, 'lineno', 0)}", node


def is_docstring(node):
    return isinstance(node.value, ast.Constant) and isinstance(node.value.value, str)


class Files(unittest.TestCase):
    def test_nothing_but_modules_lies_in_the_package(self):
        for path in PACKAGE.iterdir():
            if path.name != "__pycache__":
                self.assertRegex(path.name, r"^(__init__|[a-z][a-z0-9_]*)\.py$")

    def test_signs_and_lengths(self):
        for name, text, tree in modules():
            rows = text.split("\n")
            self.assertLessEqual(len(rows), 401, name)
            for number, row in enumerate(rows, 1):
                with self.subTest(f"{name}:{number}"):
                    self.assertRegex(row, r"^[ -~]{0,120}\Z")

    def test_words_that_stand_nowhere(self):
        for name, text, tree in modules():
            for word in re.findall(r"\w+", text):
                self.assertNotIn(word, WORDS_OUT, name)
                self.assertNotRegex(word, "dataclass|overload|contextmanager", name)

    def test_functions_are_short(self):
        for place, node in nodes(ast.FunctionDef):
            self.assertLessEqual(node.end_lineno - node.lineno + 1, 40, place)


class Forms(unittest.TestCase):
    def test_the_top_of_a_module(self):
        for name, text, tree in modules():
            self.assertTrue(isinstance(tree.body[0], ast.Expr) and is_docstring(tree.body[0]), name)
            for node in tree.body[1:]:
                self.assertIsInstance(node, (ast.ImportFrom, ast.Assign, ast.FunctionDef, ast.ClassDef), name)

    def test_imports(self):
        drawn = {}
        for name, text, tree in modules():
            drawn[name[:-3]] = []
            for node in ast.walk(tree):
                if isinstance(node, ast.ImportFrom):
                    self.assertEqual((node.level, node.module.split(".")[0], node.module.count(".")),
                                     (0, "callfold", 1), name)
                    self.assertEqual([alias.name for alias in node.names if alias.name == "*"], [], name)
                    self.assertIn(node, tree.body, name)
                    drawn[name[:-3]].append(node.module.split(".")[1])
        while drawn:
            free = [name for name, others in drawn.items() if not any(other in drawn for other in others)]
            self.assertNotEqual(free, [], f"in a ring: {sorted(drawn)}")
            for name in free:
                drawn.pop(name)

    def test_names_are_drawn_from_the_file_that_defines_them(self):
        defined = {}
        for name, text, tree in modules():
            defined[name[:-3]] = [node.name for node in tree.body if isinstance(node, (ast.FunctionDef, ast.ClassDef))]
            defined[name[:-3]] += [node.targets[0].id for node in tree.body if isinstance(node, ast.Assign)]
        for place, node in nodes(ast.ImportFrom):
            for alias in node.names:
                self.assertIsNone(alias.asname, place)
                self.assertIn(alias.name, defined[node.module.split(".")[1]], place)

    def test_top_values_are_written_out(self):
        for name, text, tree in modules():
            for top in tree.body:
                if isinstance(top, ast.Assign):
                    for node in ast.walk(top.value):
                        self.assertIsInstance(node, (ast.Constant, ast.List, ast.Tuple, ast.Dict, ast.Load), name)
                    if isinstance(top.value, (ast.List, ast.Dict)):
                        inner = [node for node in ast.walk(top.value) if isinstance(node, (ast.List, ast.Dict))]
                        self.assertEqual(len(inner), 1, name)

    def test_statements(self):
        for place, node in nodes(ast.stmt):
            with self.subTest(place):
                self.assertIsInstance(node, STATEMENTS)
                if isinstance(node, ast.Assign):
                    self.assertEqual(len(node.targets), 1)
                    self.assertNotIsInstance(node.targets[0], ast.Tuple)
                if isinstance(node, (ast.For, ast.While)):
                    self.assertEqual(node.orelse, [])
                if isinstance(node, ast.Expr) and not (node.lineno == 1 and is_docstring(node)):
                    self.assertIsInstance(node.value, ast.Call)

    def test_expressions(self):
        for place, node in nodes(ast.expr):
            with self.subTest(place):
                self.assertIsInstance(node, EXPRESSIONS)
                if isinstance(node, ast.Constant):
                    self.assertIn(node.value.__class__.__name__, ["int", "str", "bool", "NoneType"])
                    if isinstance(node.value, str):
                        self.assertNotIn(chr(37), node.value)
                if isinstance(node, ast.BinOp):
                    self.assertNotIsInstance(node.op, (ast.Div, ast.Pow))
                if isinstance(node, ast.ListComp):
                    self.assertEqual(len(node.generators), 1)
                    self.assertLessEqual(len(node.generators[0].ifs), 1)
                if isinstance(node, ast.FormattedValue):
                    self.assertIsInstance(node.value, ast.Name)
                    self.assertIsNone(node.format_spec)

    def test_is_stands_beside_written_values_alone(self):
        for place, node in nodes(ast.Compare):
            for op, right in zip(node.ops, node.comparators):
                if isinstance(op, (ast.Is, ast.IsNot)):
                    self.assertIn(ast.unparse(right), ["None", "True", "False"], place)

    def test_functions_have_plain_parameters(self):
        for place, node in nodes(ast.FunctionDef, ast.Lambda):
            given = node.args
            self.assertEqual((given.vararg, given.kwarg, given.kwonlyargs, given.posonlyargs), (None, None, [], []))
            if isinstance(node, ast.FunctionDef):
                self.assertEqual((node.decorator_list, node.returns), ([], None), place)

    def test_classes(self):
        for place, node in nodes(ast.ClassDef):
            self.assertLessEqual(len(node.bases), 1, place)
            self.assertEqual((node.decorator_list, node.keywords), ([], []), place)
            for part in node.body:
                self.assertIsInstance(part, (ast.FunctionDef, ast.Pass), place)


class WalkedAndAskedOnTheSpot(unittest.TestCase):
    walked_in = ["list", "tuple", "dict", "sorted", "sum", "any", "all", "enumerate", "zip", "min", "max"]

    def parents(self):
        for name, text, tree in modules():
            for parent in ast.walk(tree):
                for node in ast.iter_child_nodes(parent):
                    yield f"{name}:{getattr(node, 'lineno', 0)}", parent, node

    def called_name(self, node):
        if isinstance(node, ast.Call):
            return node.func.id if isinstance(node.func, ast.Name) else node.func.attr
        return None

    def test_walks(self):
        for place, parent, node in self.parents():
            if self.called_name(node) in ["zip", "enumerate", "reversed", "range", "items", "keys", "values"]:
                walked = isinstance(parent, (ast.For, ast.comprehension)) and parent.iter is node
                self.assertTrue(walked or self.called_name(parent) in self.walked_in, place)

    def test_sets(self):
        for place, parent, node in self.parents():
            if self.called_name(node) in ["set", "frozenset"]:
                asked = isinstance(parent, (ast.Compare, ast.BinOp)) or self.called_name(parent) in ["sorted", "len"]
                self.assertTrue(asked, place)


class Names(unittest.TestCase):
    def test_locals_are_not_like_imports_and_classes(self):
        for name, text, tree in modules():
            above = [node.name for node in tree.body if isinstance(node, ast.ClassDef)]
            for node in tree.body:
                if isinstance(node, ast.ImportFrom):
                    above.extend(alias.name for alias in node.names)
            for top in tree.body:
                if isinstance(top, (ast.FunctionDef, ast.ClassDef)):
                    for node in ast.walk(top):
                        local = node.arg if isinstance(node, ast.arg) else None
                        if isinstance(node, ast.Name) and isinstance(node.ctx, ast.Store):
                            local = node.id
                        self.assertNotIn(local, above, f"{name}:{top.lineno}")

    def bound(self):
        for place, node in nodes(ast.Name, ast.FunctionDef, ast.ClassDef, ast.arg):
            if isinstance(node, ast.Name):
                if isinstance(node.ctx, ast.Store):
                    yield place, node.id
            else:
                yield place, node.arg if isinstance(node, ast.arg) else node.name

    def test_bound_names_are_plain_and_not_like_those_of_python(self):
        for place, name in self.bound():
            if name != "__init__":
                self.assertFalse(name.startswith("_"), place)
                self.assertNotIn(name, NAMES_OUT[:8], place)
                self.assertFalse(hasattr(builtins, name), f"{place} {name}")

    def test_names_of_python_that_are_used(self):
        for place, node in nodes(ast.Name):
            if hasattr(builtins, node.id):
                self.assertIn(node.id, OWN_NAMES_OF_PYTHON, place)

    def test_methods_and_values(self):
        own = [node.attr for place, node in nodes(ast.Attribute) if isinstance(node.ctx, ast.Store)]
        methods = []
        for place, node in nodes(ast.ClassDef):
            methods.extend(part.name for part in node.body if isinstance(part, ast.FunctionDef))
        self.assertEqual(set(own) & set(methods), set())
        for place, node in nodes(ast.Attribute):
            self.assertIn(node.attr, METHODS_OF_PYTHON + own + methods, place)
            self.assertNotIn(node.attr, NAMES_OUT, place)

    def test_top_names_are_bound_once(self):
        for name, text, tree in modules():
            found = []
            for node in tree.body:
                if isinstance(node, (ast.FunctionDef, ast.ClassDef)):
                    found.append(node.name)
                elif isinstance(node, ast.Assign):
                    found.append(node.targets[0].id)
                elif isinstance(node, ast.ImportFrom):
                    found.extend(alias.name for alias in node.names)
            self.assertEqual(len(found), len(set(found)), name)


if __name__ == "__main__":
    unittest.main()
