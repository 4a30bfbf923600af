"""The package keeps to the part of Python that it's held to, as far as its form alone shows it (L1 to L28)."""

import ast
import builtins
import pathlib
import re
import unittest

PACKAGE = pathlib.Path(__file__).resolve().parent.parent / "notchedcards"
NAMES = """len range enumerate zip min max sum abs sorted reversed int str bool list tuple dict set frozenset isinstance
ord repr any all divmod Exception ValueError TypeError KeyError IndexError LookupError ZeroDivisionError
ArithmeticError OverflowError RuntimeError NotImplementedError AttributeError StopIteration""".split()
METHODS = """append clear copy count endswith extend find get index insert isalnum isalpha isdigit islower isspace isupper
items join keys ljust lower lstrip partition pop remove replace reverse rfind rjust rpartition rsplit rstrip setdefault
split splitlines startswith strip update upper values zfill bit_length""".split()
UNUSED = """register mro elements open input version_info with_traceback add_note format format_map sort args
encode""".split()
WORDS = """type typing typing_extensions enum Enum IntEnum StrEnum Flag IntFlag Generic Protocol ABC ABCMeta namedtuple
NamedTuple TypedDict TYPE_CHECKING abstractmethod""".split()
NODES = (
    ast.Module, ast.ImportFrom, ast.alias, ast.FunctionDef, ast.ClassDef, ast.arguments, ast.arg, ast.Assign,
    ast.AugAssign, ast.If, ast.While, ast.For, ast.Return, ast.Break, ast.Continue, ast.Pass, ast.Raise, ast.Try,
    ast.ExceptHandler, ast.Expr, ast.Constant, ast.List, ast.Tuple, ast.Dict, ast.BinOp, ast.UnaryOp, ast.BoolOp,
    ast.Compare, ast.IfExp, ast.Call, ast.Attribute, ast.Subscript, ast.Slice, ast.ListComp, ast.comprehension,
    ast.Lambda, ast.Name, ast.expr_context, ast.boolop, ast.cmpop, ast.unaryop, ast.keyword,
    ast.Add, ast.Sub, ast.Mult, ast.FloorDiv, ast.Mod, ast.BitAnd, ast.BitOr, ast.BitXor, ast.LShift, ast.RShift)
BUILT_IN_VALUES = {name for value in ("", 0, [], (), {}, set(), b"") for name in dir(value)}


def trees():
    return {path: ast.parse(path.read_text(encoding="ascii")) for path in sorted(PACKAGE.glob("*.py"))}


class Files(unittest.TestCase):
    def test_what_lies_in_the_package(self):
        names = sorted(path.name for path in PACKAGE.iterdir() if path.name != "__pycache__")
        self.assertIn("__init__.py", names)
        self.assertIn("needles.py", names)
        for name in names:
            self.assertRegex(name, r"^[a-z0-9_]+\.py$")
            self.assertNotIn(name[:-3], dir(builtins))
            self.assertFalse(name.startswith("test"))

    def test_signs_and_sizes(self):
        for path in trees():
            text = path.read_bytes()
            self.assertTrue(all(byte == 10 or 32 <= byte <= 126 for byte in text), path)
            lines = text.decode().splitlines()
            self.assertLess(len(lines), 400, path)
            self.assertLessEqual(max(len(line) for line in lines), 120, path)

    def test_words_that_stand_nowhere(self):
        for path in trees():
            words = re.findall(r"\w+", path.read_text())
            self.assertEqual(set(words) & set(WORDS), set(), path)
            self.assertNotRegex(path.read_text(), "dataclass|overload|contextmanager")


class Form(unittest.TestCase):
    def every(self, *kinds):
        for path, tree in trees().items():
            for node in ast.walk(tree):
                if isinstance(node, kinds):
                    yield f"{path.name}:{getattr(node, 'lineno', 0)}", node

    def test_kinds_of_nodes(self):
        for where, node in self.every(ast.AST):
            self.assertIsInstance(node, NODES, where)

    def test_functions(self):
        for where, node in self.every(ast.FunctionDef):
            self.assertLessEqual(node.end_lineno - node.lineno + 1, 40, where)
            self.assertEqual(node.decorator_list, [], where)
            self.assertIsNone(node.returns, where)
            plain = node.args
            self.assertFalse(plain.vararg or plain.kwarg or plain.kwonlyargs or plain.posonlyargs, where)

    def test_what_stands_by_itself_is_a_call(self):
        heads = [tree.body[0].lineno for tree in trees().values()]
        self.assertEqual(set(heads), {1})
        for where, node in self.every(ast.Expr):
            self.assertTrue(isinstance(node.value, ast.Call) or node.lineno == 1, where)

    def test_single_targets_and_plain_values(self):
        for where, node in self.every(ast.Assign):
            self.assertEqual(len(node.targets), 1, where)
        for where, node in self.every(ast.Constant):
            self.assertIn(type(node.value), (int, str, bool, type(None)), where)
            if isinstance(node.value, str):
                self.assertNotIn("%", node.value, where)
        for where, node in self.every(ast.Try):
            self.assertEqual(node.finalbody, [], where)
        for where, node in self.every(ast.For, ast.While):
            self.assertEqual(node.orelse, [], where)
        for where, node in self.every(ast.ListComp):
            self.assertEqual(len(node.generators), 1, where)
            self.assertLessEqual(len(node.generators[0].ifs), 1, where)

    def test_names(self):
        bound = set()
        for where, node in self.every(ast.Name, ast.arg, ast.FunctionDef, ast.ClassDef, ast.alias):
            name = getattr(node, "id", None) or getattr(node, "arg", None) or getattr(node, "name", None)
            if isinstance(node, ast.Name) and isinstance(node.ctx, ast.Load):
                self.assertTrue(name not in dir(builtins) or name in NAMES, f"{where} {name}")
                continue
            bound.add(name)
            self.assertTrue(name == "__init__" or re.fullmatch("[A-Za-z][A-Za-z0-9_]*", name), f"{where} {name}")
            self.assertNotIn(name, dir(builtins), where)
            self.assertNotIn(name, UNUSED, where)
        self.assertIn("answers", bound)

    def test_attributes(self):
        methods, values = set(), set()
        for where, node in self.every(ast.ClassDef):
            methods |= {part.name for part in node.body if isinstance(part, ast.FunctionDef)}
            self.assertTrue(all(isinstance(part, ast.FunctionDef) for part in node.body), where)
        for where, node in self.every(ast.Attribute):
            self.assertNotIn(node.attr, UNUSED, where)
            if isinstance(node.ctx, ast.Store):
                values.add(node.attr)
                self.assertNotIn(node.attr, BUILT_IN_VALUES, where)
        self.assertEqual(methods & values, set())
        for where, node in self.every(ast.Attribute):
            self.assertIn(node.attr, methods | values | set(METHODS), where)

    def test_names_within_a_file(self):
        for path, tree in trees().items():
            taken = {alias.name for node in tree.body if isinstance(node, ast.ImportFrom) for alias in node.names}
            taken |= {node.name for node in tree.body if isinstance(node, ast.ClassDef)}
            local = {node.arg for node in ast.walk(tree) if isinstance(node, ast.arg)}
            local |= {node.id for node in ast.walk(tree) if isinstance(node, ast.Name)
                      and isinstance(node.ctx, ast.Store)}
            self.assertEqual(taken & local, set(), path)
            tops = [node.name for node in tree.body if isinstance(node, (ast.FunctionDef, ast.ClassDef))]
            tops += [node.targets[0].id for node in tree.body if isinstance(node, ast.Assign)]
            self.assertEqual(len(tops), len(set(tops)), path)
            self.assertEqual(set(tops) & (local - set(tops)), set(), path)

    def test_errors(self):
        for where, node in self.every(ast.ExceptHandler):
            self.assertIsInstance(node.type, ast.Name, where)
            self.assertNotIn(node.type.id, dir(builtins), where)
        for where, node in self.every(ast.Raise):
            self.assertIsInstance(node.exc, ast.Call, where)


class Imports(unittest.TestCase):
    def test_from_the_file_that_defines_and_never_in_a_ring(self):
        drawn = {}
        for path, tree in trees().items():
            drawn[path.stem] = set()
            for node in ast.walk(tree):
                if isinstance(node, ast.ImportFrom):
                    self.assertIn(node, tree.body)
                    self.assertEqual((node.level, node.module.split(".")[0]), (0, "notchedcards"))
                    source = ast.parse((PACKAGE / (node.module.split(".")[1] + ".py")).read_text())
                    tops = {part.name for part in source.body if isinstance(part, (ast.FunctionDef, ast.ClassDef))}
                    tops |= {part.targets[0].id for part in source.body if isinstance(part, ast.Assign)}
                    for alias in node.names:
                        self.assertIn(alias.name, tops)
                        self.assertIsNone(alias.asname)
                    drawn[path.stem].add(node.module.split(".")[1])
        while drawn:
            free = [stem for stem in drawn if not drawn[stem] & set(drawn)]
            self.assertTrue(free, "files draw from one another")
            for stem in free:
                drawn.pop(stem)

    def test_the_interface_stands_in_its_file_alone(self):
        for path, tree in trees().items():
            tops = [node.name for node in tree.body if isinstance(node, (ast.FunctionDef, ast.ClassDef))]
            self.assertEqual("answers" in tops, path.name == "needles.py")
            if "answers" in tops:
                node = tree.body[[getattr(part, "name", "") for part in tree.body].index("answers")]
                self.assertEqual([arg.arg for arg in node.args.args], ["calls"])
                self.assertEqual(node.args.defaults, [])
