"""The form of the package's own files: what LANGUAGE.md asks for and can be seen by a program."""

import ast
import pathlib
import re
import unittest

PACKAGE = pathlib.Path(__file__).resolve().parent.parent / "gamerecord"
TEXTS = [(file, file.read_text(encoding="utf-8")) for file in sorted(PACKAGE.glob("*.py"))]
PARSED = [(file, text, ast.parse(text)) for file, text in TEXTS]

OWN_NAMES = set(
    "len range enumerate zip min max sum abs sorted reversed int str bool list tuple dict set frozenset isinstance ord "
    "repr any all divmod Exception ValueError TypeError KeyError IndexError LookupError ZeroDivisionError "
    "ArithmeticError OverflowError RuntimeError NotImplementedError AttributeError StopIteration".split())
METHODS = set(
    "append clear copy count endswith extend find get index insert isalnum isalpha isdigit islower isspace isupper items "
    "join keys ljust lower lstrip partition pop remove replace reverse rfind rjust rpartition rsplit rstrip setdefault "
    "split splitlines startswith strip update upper values zfill bit_length".split())
WORDS = re.compile(
    r"\b(type|typing|typing_extensions|enum|Enum|IntEnum|StrEnum|Flag|IntFlag|Generic|Protocol|ABC|ABCMeta|namedtuple|"
    r"NamedTuple|TypedDict|TYPE_CHECKING|abstractmethod)\b|dataclass|overload|contextmanager")
NEVER = set(
    "register mro elements open input version_info with_traceback add_note attrgetter breakpoint builtins compile copyright "
    "credits delattr dir eval exec exit gc getattr globals hasattr help id importlib license locals methodcaller os quit "
    "setattr super type vars sys __name__ chr print".split())
NODES = (
    ast.Module, ast.FunctionDef, ast.ClassDef, ast.arguments, ast.arg, ast.ImportFrom, ast.alias, ast.Assign, ast.AugAssign,
    ast.If, ast.While, ast.For, ast.Return, ast.Break, ast.Continue, ast.Pass, ast.Raise, ast.Try, ast.ExceptHandler,
    ast.Expr, ast.Call, ast.Constant, ast.List, ast.Tuple, ast.Dict, ast.BinOp, ast.UnaryOp, ast.BoolOp, ast.Compare,
    ast.IfExp, ast.Attribute, ast.Subscript, ast.Slice, ast.ListComp, ast.comprehension, ast.JoinedStr,
    ast.FormattedValue, ast.Name, ast.keyword, ast.expr_context, ast.operator, ast.unaryop, ast.boolop, ast.cmpop)


def plain(node, functions):
    """Whether a value at a file's top is a plain one."""
    if isinstance(node, ast.UnaryOp) and isinstance(node.op, ast.USub):
        return isinstance(node.operand, ast.Constant)
    if isinstance(node, ast.Constant):
        return node.value is None or isinstance(node.value, (int, str))
    if isinstance(node, ast.Name):
        return node.id in functions
    if isinstance(node, (ast.List, ast.Tuple)):
        return all(plain(part, functions) for part in node.elts)
    if isinstance(node, ast.Dict):
        return all(plain(part, functions) for part in node.keys + node.values)
    return False


def local_names(tree):
    """Names that functions of the file give a value to, parameters too."""
    functions = [node for node in ast.walk(tree) if isinstance(node, ast.FunctionDef)]
    for node in [part for function in functions for part in ast.walk(function)]:
        if isinstance(node, ast.arg):
            yield node.arg
        elif isinstance(node, ast.Name) and isinstance(node.ctx, ast.Store):
            yield node.id
        elif isinstance(node, ast.ExceptHandler) and node.name:
            yield node.name


class Language(unittest.TestCase):
    def test_the_folder(self):
        names = [path.name for path in PACKAGE.iterdir() if path.name != "__pycache__"]
        self.assertIn("__init__.py", names)
        for name in names:
            self.assertRegex(name, r"^([a-z][a-z0-9_]*|__init__)\.py$")

    def test_signs_and_sizes(self):
        for file, text, tree in PARSED:
            with self.subTest(file=file.name):
                self.assertRegex(text, r"^[ -~\n]*$")
                self.assertIsNone(WORDS.search(text))
                self.assertLessEqual(len(text.splitlines()), 400)
                self.assertLessEqual(max(map(len, text.splitlines())), 120)
                for node in ast.walk(tree):
                    if isinstance(node, ast.FunctionDef):
                        self.assertLessEqual(node.end_lineno - node.lineno + 1, 40, node.name)

    def test_the_top_of_a_file(self):
        for file, text, tree in PARSED:
            with self.subTest(file=file.name):
                functions = set()
                names = []
                for node in tree.body:
                    if isinstance(node, ast.FunctionDef):
                        functions.add(node.name)
                        names.append(node.name)
                    elif isinstance(node, ast.ClassDef):
                        names.append(node.name)
                    elif isinstance(node, ast.ImportFrom):
                        names.extend(alias.name for alias in node.names)
                    elif isinstance(node, ast.Assign):
                        self.assertTrue(plain(node.value, functions), ast.unparse(node))
                        names.append(node.targets[0].id)
                    else:
                        self.assertIsInstance(node.value, ast.Constant)
                self.assertEqual(len(names), len(set(names)))
                self.assertEqual(set(names) & set(local_names(tree)), set())

    def test_imports(self):
        draws = {}
        for file, text, tree in PARSED:
            with self.subTest(file=file.name):
                draws[file.stem] = []
                for node in ast.walk(tree):
                    if isinstance(node, ast.ImportFrom):
                        self.assertEqual(node.level, 0)
                        folder, name = node.module.split(".")
                        self.assertEqual(folder, "gamerecord")
                        draws[file.stem].append(name)
                        source = ast.parse((PACKAGE / (name + ".py")).read_text())
                        defined = [getattr(part, "name", None) or part.targets[0].id for part in source.body
                                   if isinstance(part, (ast.FunctionDef, ast.ClassDef, ast.Assign))]
                        for alias in node.names:
                            self.assertIn(alias.name, defined)
                            self.assertIsNone(alias.asname)
                            self.assertGreater(len(re.findall(r"\b" + alias.name + r"\b", text)), 1, alias.name)
        while draws:
            free = [name for name in draws if not any(other in draws for other in draws[name])]
            self.assertTrue(free, "files draw from one another")
            for name in free:
                draws.pop(name)

    def test_nodes(self):
        for file, text, tree in PARSED:
            with self.subTest(file=file.name):
                for node in ast.walk(tree):
                    self.assertIsInstance(node, NODES, getattr(node, "lineno", 0))
                    if isinstance(node, ast.FunctionDef):
                        self.assertFalse(node.decorator_list or node.returns or node.args.vararg or node.args.kwarg)
                        self.assertFalse(node.args.kwonlyargs or node.args.posonlyargs)
                    elif isinstance(node, ast.arg):
                        self.assertIsNone(node.annotation)
                    elif isinstance(node, ast.Assign):
                        self.assertEqual(len(node.targets), 1)
                    elif isinstance(node, ast.Expr) and node is not tree.body[0]:
                        self.assertIsInstance(node.value, ast.Call)
                    elif isinstance(node, (ast.For, ast.While)):
                        self.assertEqual(node.orelse, [])
                    elif isinstance(node, ast.Try):
                        self.assertEqual(node.finalbody, [])
                        self.assertTrue(all(isinstance(handler.type, ast.Name) for handler in node.handlers))
                    elif isinstance(node, (ast.BinOp, ast.AugAssign)):
                        self.assertNotIsInstance(node.op, (ast.Div, ast.Pow, ast.MatMult))
                    elif isinstance(node, ast.Compare):
                        for sign, right in zip(node.ops, node.comparators):
                            if isinstance(sign, (ast.Is, ast.IsNot)):
                                self.assertIsInstance(right, ast.Constant)
                    elif isinstance(node, ast.FormattedValue):
                        self.assertIsInstance(node.value, ast.Name)
                        self.assertIsNone(node.format_spec)
                    elif isinstance(node, ast.Constant):
                        self.assertNotIsInstance(node.value, (float, bytes, complex))
                        self.assertNotIn("%", node.value if isinstance(node.value, str) else "")

    def test_names(self):
        values = set()
        methods = set()
        builtin_names = set(dir(__builtins__) if not isinstance(__builtins__, dict) else __builtins__)
        for file, text, tree in PARSED:
            with self.subTest(file=file.name):
                for node in ast.walk(tree):
                    if isinstance(node, ast.Attribute) and isinstance(node.ctx, ast.Store):
                        values.add(node.attr)
                    elif isinstance(node, ast.ClassDef):
                        methods.update(part.name for part in node.body if isinstance(part, ast.FunctionDef))
                defined = set(local_names(tree))
                for node in tree.body:
                    defined.update(target.id for target in getattr(node, "targets", []))
                    defined.update([node.name] if isinstance(node, (ast.FunctionDef, ast.ClassDef)) else [])
                    defined.update(alias.name for alias in getattr(node, "names", []))
                for name in defined:
                    self.assertRegex(name, r"^[A-Za-z][A-Za-z0-9_]*$")
                    self.assertNotIn(name, builtin_names)
                    self.assertNotIn(name, NEVER)
                for node in ast.walk(tree):
                    if isinstance(node, ast.Name):
                        self.assertIn(node.id, defined | OWN_NAMES)
        self.assertEqual(values & methods, set())
        self.assertEqual(methods - {"__init__"}, set())
        pythons_own = set().union(*[dir(kind) for kind in (str, int, list, dict, set, bytes)])
        self.assertEqual(values & pythons_own, set())

    def test_methods_that_are_called(self):
        for file, text, tree in PARSED:
            with self.subTest(file=file.name):
                for node in ast.walk(tree):
                    if isinstance(node, ast.Call) and isinstance(node.func, ast.Attribute):
                        self.assertIn(node.func.attr, METHODS | {"__init__"})
                    if isinstance(node, ast.Call):
                        self.assertEqual(node.keywords, [])


if __name__ == "__main__":
    unittest.main()
