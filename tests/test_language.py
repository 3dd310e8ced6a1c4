"""Rules of the language subset that can be seen in the code: those that are broken most easily."""

import ast
import builtins
import pathlib
import re
import unittest
import warnings

PACKAGE = pathlib.Path(__file__).resolve().parent.parent / "spareblocks"
FILES = sorted(PACKAGE.rglob("*.py"))

BUILTINS = set("""len range enumerate zip min max sum abs sorted reversed int str bool bytes list tuple dict set
    frozenset isinstance ord repr any all divmod iter next Exception ValueError TypeError KeyError IndexError
    LookupError ZeroDivisionError ArithmeticError OverflowError RuntimeError NotImplementedError AttributeError
    StopIteration NotImplemented property staticmethod classmethod super""".split())
NAMES_NOWHERE = set("""register mro elements open input law version_info with_traceback add_note format
    format_map""".split())
NAMES_NOT_BOUND = set("""attrgetter breakpoint builtins compile copyright credits delattr dir eval exec exit gc
    getattr globals hasattr help id importlib license locals methodcaller os quit setattr super type vars
    sys""".split())
WORDS = re.compile(r"\b(type|typing|typing_extensions|enum|Enum|IntEnum|StrEnum|Flag|IntFlag|Generic|Protocol|ABC|"
                   r"ABCMeta|namedtuple|NamedTuple|TypedDict|TYPE_CHECKING|abstractmethod)\b|dataclass|overload|"
                   r"contextmanager")
DOUBLE = re.compile(r"__(init|eq|repr|str|len|enter|exit|call|iter|lt|le|gt|ge|ne|bool|contains|getitem|setitem)__")
STATEMENTS = (ast.Global, ast.AsyncFunctionDef, ast.AsyncFor, ast.AsyncWith, ast.Await, ast.Import)


def parsed():
    for path in FILES:
        text = path.read_text(encoding="utf-8")
        yield path, text, ast.parse(text)


def bound_names(tree):
    """All names that are given a meaning: variables, parameters, functions, classes, imports, caught errors."""
    for node in ast.walk(tree):
        if isinstance(node, ast.Name) and not isinstance(node.ctx, ast.Load):
            yield node.id
        elif isinstance(node, ast.arg):
            yield node.arg
        elif isinstance(node, (ast.FunctionDef, ast.ClassDef)):
            yield node.name
        elif isinstance(node, ast.alias):
            yield node.asname or node.name
        elif isinstance(node, ast.ExceptHandler) and node.name:
            yield node.name


class LanguageTest(unittest.TestCase):
    def test_files(self):
        self.assertIn(PACKAGE / "__init__.py", FILES)
        for path in PACKAGE.rglob("*"):
            if "__pycache__" not in path.parts:
                self.assertRegex(path.name, r"^(__init__|__main__|[a-z][a-z0-9_]*)\.py$")
                self.assertFalse(path.stem.startswith(("test", "law_", "conftest", "site")), path)
                self.assertFalse(hasattr(builtins, path.stem) and path.stem != "__init__", path)

    def test_characters_and_sizes(self):
        for path, text, tree in parsed():
            lines = text.split("\n")
            self.assertLessEqual(len(lines), 399, path)
            self.assertLessEqual(max(len(line) for line in lines), 120, path)
            self.assertRegex(text, r"^[ -~\n]*$", path)
            for node in ast.walk(tree):
                if isinstance(node, ast.FunctionDef):
                    self.assertLessEqual(node.end_lineno - node.lineno + 1, 40, (path, node.name))

    def test_no_warnings(self):
        with warnings.catch_warnings():
            warnings.simplefilter("error")
            for path, text, tree in parsed():
                compile(text, str(path), "exec")

    def test_words_and_strings(self):
        for path, text, tree in parsed():
            self.assertIsNone(WORDS.search(text), path)
            for node in ast.walk(tree):
                if isinstance(node, ast.Constant):
                    self.assertNotIsInstance(node.value, (float, complex), path)
                    if isinstance(node.value, str):
                        self.assertNotIn(chr(37), node.value, path)

    def test_names(self):
        for path, text, tree in parsed():
            for name in bound_names(tree):
                if DOUBLE.fullmatch(name):
                    continue
                self.assertRegex(name, "^[A-Za-z][A-Za-z0-9_]*$", path)
                self.assertNotIn(name, NAMES_NOWHERE | NAMES_NOT_BOUND, path)
                self.assertFalse(hasattr(builtins, name), (path, name))
            for node in ast.walk(tree):
                if isinstance(node, ast.Attribute):
                    self.assertNotIn(node.attr, NAMES_NOWHERE, path)
                    self.assertFalse(node.attr.startswith("_") and node.attr != "__init__", (path, node.attr))
                elif isinstance(node, ast.Name) and hasattr(builtins, node.id):
                    self.assertIn(node.id, BUILTINS, path)
                self.assertNotIsInstance(node, STATEMENTS, path)
                self.assertFalse(isinstance(node, ast.BinOp) and isinstance(node.op, ast.Div), path)

    def test_imports_name_the_file_that_defines_and_make_no_ring(self):
        needs = {}
        for path, text, tree in parsed():
            needs["spareblocks." + path.stem] = imported = set()
            for node in ast.walk(tree):
                if isinstance(node, ast.ImportFrom):
                    self.assertEqual(0, node.level, path)
                    self.assertTrue(node.module.startswith("spareblocks."), path)
                    imported.add(node.module)
                    source = (PACKAGE / (node.module.split(".")[1] + ".py")).read_text(encoding="utf-8")
                    for alias in node.names:
                        self.assertRegex(source, rf"(?m)^(def {alias.name}\(|class {alias.name}\b|{alias.name} = )")
        done = {"spareblocks.__init__"}
        for turn in range(len(needs)):
            done |= {name for name in needs if needs[name] <= done}
        self.assertEqual(set(needs), done)

    def test_module_level(self):
        for path, text, tree in parsed():
            bound = []
            for node in tree.body:
                allowed = (ast.Expr, ast.ImportFrom, ast.FunctionDef, ast.ClassDef, ast.Assign)
                self.assertIsInstance(node, allowed, path)
                if isinstance(node, ast.Expr):
                    self.assertIs(node, tree.body[0], path)
                elif isinstance(node, ast.Assign):
                    self.assertEqual(1, len(node.targets), path)
                    bound.append(node.targets[0].id)
                elif isinstance(node, ast.ImportFrom):
                    bound.extend(alias.asname or alias.name for alias in node.names)
                else:
                    bound.append(node.name)
            self.assertEqual(len(set(bound)), len(bound), path)

    def test_no_name_is_both_a_method_and_an_attribute(self):
        methods, attributes = set(), set()
        for path, text, tree in parsed():
            for node in ast.walk(tree):
                if isinstance(node, ast.ClassDef):
                    methods |= {row.name for row in node.body if isinstance(row, ast.FunctionDef)}
                elif isinstance(node, ast.Attribute) and isinstance(node.ctx, ast.Store):
                    attributes.add(node.attr)
        self.assertEqual(set(), methods & attributes)

    def test_is_only_with_none_true_and_false(self):
        for path, text, tree in parsed():
            for node in ast.walk(tree):
                if isinstance(node, ast.Compare) and isinstance(node.ops[0], (ast.Is, ast.IsNot)):
                    self.assertIn(ast.unparse(node.comparators[0]), ("None", "True", "False"), path)


if __name__ == "__main__":
    unittest.main()
