"""Rules of the language subset that can be seen in the code: those that are broken most easily."""

import ast
import builtins
import pathlib
import re
import unittest
import warnings

PACKAGE = pathlib.Path(__file__).resolve().parent.parent / "spareblocks"
FILES = sorted(PACKAGE.rglob("*.py"))

BUILTINS = set("""len range enumerate zip min max sum abs sorted reversed int str bool bytes list tuple dict set
    frozenset isinstance ord repr any all divmod iter next Exception ValueError TypeError KeyError IndexError
    LookupError ZeroDivisionError ArithmeticError OverflowError RuntimeError NotImplementedError AttributeError
    StopIteration NotImplemented property staticmethod classmethod super""".split())
NAMES_NOWHERE = set("""register mro elements open input law version_info with_traceback add_note format
    format_map""".split())
NAMES_NOT_BOUND = set("""attrgetter breakpoint builtins compile copyright credits delattr dir eval exec exit gc
    getattr globals hasattr help id importlib license locals methodcaller os quit setattr super type vars
    sys""".split())
WORDS = re.compile(r"\b(type|typing|typing_extensions|enum|Enum|IntEnum|StrEnum|Flag|IntFlag|Generic|Protocol|ABC|"
                   r"ABCMeta|namedtuple|NamedTuple|TypedDict|TYPE_CHECKING|abstractmethod)\b|dataclass|overload|"
                   r"contextmanager")
DOUBLE = re.compile(r"__(init|eq|repr|str|len|enter|exit|call|iter|lt|le|gt|ge|ne|bool|contains|getitem|setitem)__")
METHODS = set("""append clear copy count endswith extend find get index insert isalnum isalpha isdigit islower isspace
    isupper items join keys ljust lower lstrip partition pop remove replace reverse rfind rjust rpartition rsplit rstrip
    setdefault split splitlines startswith strip update upper values zfill bit_length add discard removeprefix
    removesuffix isascii""".split())
AT_ONCE = ("zip", "enumerate", "reversed", "range", "items", "keys", "values")
TAKERS = ("list", "tuple", "dict", "sorted", "sum", "any", "all", "enumerate", "zip", "min", "max")
STATEMENTS = (ast.Global, ast.AsyncFunctionDef, ast.AsyncFor, ast.AsyncWith, ast.Await, ast.Import)


# What the interface lists for each file.
LISTED = {"drives": ["Drive"], "rates": ["rate", "debt", "longest_write", "most_price", "costly_load"],
          "drifts": ["drift", "drift_load"], "comparing": ["excess", "never_more", "worse_load"],
          "playing": ["steps", "blocks_of", "erased", "price", "stand", "stands"],
          "sticking": ["sticks", "stick_load"], "best": ["best_rate", "best_pause", "best_picks", "is_best"],
          "wishes": ["blocks_for", "limits_for"], "books": ["Book"], "checker": ["accepts"],
          "certificates": ["certify_at_most", "certify_at_least", "certify_holds", "certify_forces",
                           "certify_more"]}


def parsed():
    for path in FILES:
        text = path.read_text(encoding="utf-8")
        yield path, text, ast.parse(text)


def bound_names(tree):
    """All names that are given a meaning: variables, parameters, functions, classes, imports, caught errors."""
    for node in ast.walk(tree):
        if isinstance(node, ast.Name) and not isinstance(node.ctx, ast.Load):
            yield node.id
        elif isinstance(node, ast.arg):
            yield node.arg
        elif isinstance(node, (ast.FunctionDef, ast.ClassDef)):
            yield node.name
        elif isinstance(node, ast.alias):
            yield node.asname or node.name
        elif isinstance(node, ast.ExceptHandler) and node.name:
            yield node.name


def called_name(node):
    """The name by which a call calls, of a function or of a method."""
    if isinstance(node, ast.Call):
        return node.func.id if isinstance(node.func, ast.Name) else getattr(node.func, "attr", None)
    return None


def children_of(tree):
    """Pairs of each node and the node around it."""
    for node in ast.walk(tree):
        for child in ast.iter_child_nodes(node):
            yield node, child


def own_functions():
    """The functions at module level, by name."""
    return {node.name: node for path, text, tree in parsed() for node in tree.body if isinstance(node, ast.FunctionDef)}


def reading_methods(tree):
    """The operators that change nothing, and the properties."""
    names = ("__getitem__", "__contains__", "__iter__", "__len__", "__bool__", "__eq__", "__str__", "__repr__")
    for node in ast.walk(tree):
        if isinstance(node, ast.FunctionDef):
            if node.name in names or "property" in [getattr(row, "id", None) for row in node.decorator_list]:
                yield node


def own_methods_and_attributes():
    """The names of all methods, and of all attributes that are assigned."""
    methods, attributes = set(), set()
    for path, text, tree in parsed():
        for node in ast.walk(tree):
            if isinstance(node, ast.ClassDef):
                methods |= {row.name for row in node.body if isinstance(row, ast.FunctionDef)}
            elif isinstance(node, ast.Attribute) and isinstance(node.ctx, ast.Store):
                attributes.add(node.attr)
    return methods, attributes


class LanguageTest(unittest.TestCase):
    def test_files(self):
        self.assertIn(PACKAGE / "__init__.py", FILES)
        for path in PACKAGE.rglob("*"):
            if "__pycache__" not in path.parts:
                self.assertRegex(path.name, r"^(__init__|__main__|[a-z][a-z0-9_]*)\.py$")
                self.assertFalse(path.stem.startswith(("test", "law_", "conftest", "site")), path)
                self.assertFalse(hasattr(builtins, path.stem) and path.stem != "__init__", path)

    def test_characters_and_sizes(self):
        for path, text, tree in parsed():
            lines = text.split("\n")
            self.assertLessEqual(len(lines), 399, path)
            self.assertLessEqual(max(len(line) for line in lines), 120, path)
            self.assertRegex(text, r"^[ -~\n]*$", path)
            for node in ast.walk(tree):
                if isinstance(node, ast.FunctionDef):
                    self.assertLessEqual(node.end_lineno - node.lineno + 1, 40, (path, node.name))

    def test_no_warnings(self):
        with warnings.catch_warnings():
            warnings.simplefilter("error")
            for path, text, tree in parsed():
                compile(text, str(path), "exec")

    def test_words_and_strings(self):
        for path, text, tree in parsed():
            self.assertIsNone(WORDS.search(text), path)
            for node in ast.walk(tree):
                if isinstance(node, ast.Constant):
                    self.assertNotIsInstance(node.value, (float, complex), path)
                    if isinstance(node.value, str):
                        self.assertNotIn(chr(37), node.value, path)

    def test_names(self):
        for path, text, tree in parsed():
            for name in bound_names(tree):
                if DOUBLE.fullmatch(name):
                    continue
                self.assertRegex(name, "^[A-Za-z][A-Za-z0-9_]*$", path)
                self.assertNotIn(name, NAMES_NOWHERE | NAMES_NOT_BOUND, path)
                self.assertFalse(hasattr(builtins, name), (path, name))
            for node in ast.walk(tree):
                if isinstance(node, ast.Attribute):
                    self.assertNotIn(node.attr, NAMES_NOWHERE, path)
                    self.assertFalse(node.attr.startswith("_") and node.attr != "__init__", (path, node.attr))
                elif isinstance(node, ast.Name) and hasattr(builtins, node.id):
                    self.assertIn(node.id, BUILTINS, path)
                self.assertNotIsInstance(node, STATEMENTS, path)
                self.assertFalse(isinstance(node, ast.BinOp) and isinstance(node.op, ast.Div), path)

    def test_imports_name_the_file_that_defines_and_make_no_ring(self):
        needs = {}
        for path, text, tree in parsed():
            needs["spareblocks." + path.stem] = imported = set()
            for node in ast.walk(tree):
                if isinstance(node, ast.ImportFrom):
                    self.assertEqual(0, node.level, path)
                    self.assertTrue(node.module.startswith("spareblocks."), path)
                    imported.add(node.module)
                    source = (PACKAGE / (node.module.split(".")[1] + ".py")).read_text(encoding="utf-8")
                    for alias in node.names:
                        self.assertRegex(source, rf"(?m)^(def {alias.name}\(|class {alias.name}\b|{alias.name} = )")
        done = {"spareblocks.__init__"}
        for turn in range(len(needs)):
            done |= {name for name in needs if needs[name] <= done}
        self.assertEqual(set(needs), done)

    def test_all_that_is_imported_or_defined_is_used(self):
        texts = {path: text for path, text, tree in parsed()}
        for path, text, tree in parsed():
            used = {node.id for node in ast.walk(tree) if isinstance(node, ast.Name) and isinstance(node.ctx, ast.Load)}
            for node in tree.body:
                if isinstance(node, ast.ImportFrom):
                    self.assertLessEqual({alias.name for alias in node.names}, used, path)
                elif isinstance(node, ast.FunctionDef) and node.name not in used and path.stem not in LISTED:
                    others = [other for other in texts if other != path and re.search(rf"\b{node.name}\b", texts[other])]
                    self.assertTrue(others, (path, node.name))

    def test_no_variable_has_the_name_of_an_import_or_a_definition_of_its_file(self):
        for path, text, tree in parsed():
            taken = {alias.name for node in tree.body if isinstance(node, ast.ImportFrom) for alias in node.names}
            taken |= {node.name for node in tree.body if isinstance(node, (ast.ClassDef, ast.FunctionDef))}
            for node in ast.walk(tree):
                if isinstance(node, (ast.FunctionDef, ast.Lambda)):
                    names = {row.arg for row in node.args.args + node.args.kwonlyargs}
                    names |= {row.id for row in ast.walk(node) if isinstance(row, ast.Name) and isinstance(row.ctx, ast.Store)}
                    self.assertEqual(set(), names & taken, path)

    def test_module_level(self):
        for path, text, tree in parsed():
            bound = []
            for node in tree.body:
                allowed = (ast.Expr, ast.ImportFrom, ast.FunctionDef, ast.ClassDef, ast.Assign)
                self.assertIsInstance(node, allowed, path)
                if isinstance(node, ast.Expr):
                    self.assertIs(node, tree.body[0], path)
                elif isinstance(node, ast.Assign):
                    self.assertEqual(1, len(node.targets), path)
                    bound.append(node.targets[0].id)
                elif isinstance(node, ast.ImportFrom):
                    bound.extend(alias.asname or alias.name for alias in node.names)
                else:
                    bound.append(node.name)
            self.assertEqual(len(set(bound)), len(bound), path)

    def test_values_at_module_level_are_plain(self):
        for path, text, tree in parsed():
            functions = set()
            for node in tree.body:
                if isinstance(node, ast.FunctionDef):
                    functions.add(node.name)
                elif isinstance(node, ast.Assign):
                    for part in ast.walk(node.value):
                        plain = isinstance(part, (ast.Constant, ast.Tuple, ast.Dict, ast.Load))
                        self.assertTrue(plain or isinstance(part, ast.Name) and part.id in functions, (path, node.lineno))

    def test_what_only_reads_changes_nothing(self):
        # Operators but for __setitem__, and properties, neither assign nor delete anything but local names.
        for path, text, tree in parsed():
            for method in reading_methods(tree):
                for node in ast.walk(method):
                    self.assertFalse(isinstance(node, (ast.Attribute, ast.Subscript))
                                     and isinstance(node.ctx, (ast.Store, ast.Del)), (path, method.name))
                    self.assertNotIn(called_name(node), ("append", "pop", "clear", "update", "setdefault", "extend", "add"))

    def test_operators_and_with_statements(self):
        methods, attributes = own_methods_and_attributes()
        self.assertNotIn("keys", methods | attributes)
        for path, text, tree in parsed():
            for node in [node for node in ast.walk(tree) if isinstance(node, ast.ClassDef)]:
                defined = {row.name: row for row in node.body if isinstance(row, ast.FunctionDef)}
                if "__getitem__" in defined:
                    last = defined["__iter__"].body[-1]
                    self.assertTrue(isinstance(last, ast.Raise) and last.exc.func.id == "TypeError", path)
                if "__exit__" in defined:
                    self.assertIn("__enter__", defined)
                    for row in ast.walk(defined["__exit__"]):
                        self.assertNotIsInstance(row, (ast.Call, ast.BinOp, ast.Subscript, ast.While, ast.For, ast.Raise), path)
            for node in ast.walk(tree):
                if called_name(node) == "reversed":
                    self.assertIn(called_name(node.args[0]), ("list", "tuple", "sorted", "range"), path)

    def test_handlers_name_own_errors(self):
        own = {node.name for path, text, tree in parsed() for node in tree.body
               if isinstance(node, ast.ClassDef) and path.stem == "errors"}
        for path, text, tree in parsed():
            for node in ast.walk(tree):
                if isinstance(node, ast.ExceptHandler):
                    named = node.type.elts if isinstance(node.type, ast.Tuple) else [node.type]
                    self.assertLessEqual({one.id for one in named}, own, (path, node.lineno))

    def test_lambdas(self):
        for path, text, tree in parsed():
            found = [(node.lineno, ast.unparse(node.args)) for node in ast.walk(tree) if isinstance(node, ast.Lambda)]
            self.assertEqual(len(set(found)), len(found), path)
            self.assertFalse(any("=" in told or "*" in told for line, told in found), path)

    def test_no_name_is_both_a_method_and_an_attribute(self):
        methods, attributes = own_methods_and_attributes()
        self.assertEqual(set(), methods & attributes)

    def test_is_only_with_none_true_and_false(self):
        for path, text, tree in parsed():
            for node in ast.walk(tree):
                if isinstance(node, ast.Compare) and isinstance(node.ops[0], (ast.Is, ast.IsNot)):
                    self.assertIn(ast.unparse(node.comparators[0]), ("None", "True", "False"), path)

    def test_no_generator_but_the_one_of_the_interface_and_no_sort(self):
        # A class has __eq__, so that any, all, min, max, sum and sorted take lists, and xs.sort() is not allowed.
        for path, text, tree in parsed():
            for node in ast.walk(tree):
                self.assertNotIsInstance(node, (ast.GeneratorExp, ast.Yield, ast.NamedExpr), path)
                self.assertFalse(isinstance(node, ast.YieldFrom) and path.stem != "playing", path)
                self.assertFalse(isinstance(node, ast.Call) and called_name(node) == "steps", path)
                self.assertNotEqual("sort", called_name(node), path)

    def test_iterated_at_once(self):
        for path, text, tree in parsed():
            for node, child in children_of(tree):
                if called_name(child) not in AT_ONCE:
                    continue
                over = isinstance(node, (ast.For, ast.comprehension)) and node.iter is child
                taken = called_name(node) in TAKERS and node.args[0] is child
                self.assertTrue(over or taken, (path, child.lineno))

    def test_sets(self):
        for path, text, tree in parsed():
            for function in [node for node in ast.walk(tree) if isinstance(node, ast.FunctionDef)]:
                stored = [node.targets[0].id for node in ast.walk(function) if isinstance(node, ast.Assign)
                          and called_name(node.value) == "set"]
                self.assertEqual(len(set(stored)), len(stored), path)
                for node, child in children_of(function):
                    self.assertFalse(isinstance(child, (ast.Set, ast.SetComp)), path)
                    if isinstance(child, ast.Name) and isinstance(child.ctx, ast.Load) and child.id in stored:
                        tested = isinstance(node, ast.Compare) and isinstance(node.ops[0], (ast.In, ast.NotIn))
                        changed = isinstance(node, ast.Attribute) and node.attr in ("add", "discard")
                        self.assertTrue(tested or changed or called_name(node) in ("len", "sorted"), (path, child.lineno))

    def test_raise_creates_its_error(self):
        for path, text, tree in parsed():
            for node in ast.walk(tree):
                if isinstance(node, ast.Raise) and node.exc is not None:
                    self.assertIsInstance(node.exc, ast.Call, path)
                    self.assertRegex(node.exc.func.id, "^[A-Z]", path)

    def test_calls_of_own_functions_pass_what_these_take(self):
        functions = own_functions()
        for path, text, tree in parsed():
            for node in ast.walk(tree):
                if isinstance(node, ast.Call) and isinstance(node.func, ast.Name) and node.func.id in functions:
                    taken = functions[node.func.id].args
                    least = len(taken.args) - len(taken.defaults)
                    self.assertIn(len(node.args), range(least, len(taken.args) + 1), (path, node.lineno))
                    named = [keyword.arg for keyword in node.keywords]
                    self.assertLessEqual(set(named), {row.arg for row in taken.kwonlyargs}, (path, node.lineno))

    def test_no_two_functions_have_one_name(self):
        names = [node.name for path, text, tree in parsed() for node in tree.body if isinstance(node, ast.FunctionDef)]
        self.assertEqual(sorted(set(names)), sorted(names))

    def test_attributes_and_methods_are_own_or_listed(self):
        methods, attributes = own_methods_and_attributes()
        for path, text, tree in parsed():
            for node in ast.walk(tree):
                if isinstance(node, ast.Attribute):
                    self.assertIn(node.attr, methods | attributes | METHODS, (path, node.lineno))

    def test_loops_do_not_change_what_they_iterate_over(self):
        changing = ("append", "extend", "insert", "pop", "remove", "clear", "update", "setdefault", "reverse")
        for path, text, tree in parsed():
            for loop in [node for node in ast.walk(tree) if isinstance(node, ast.For)]:
                over = {ast.unparse(node) for node in ast.walk(loop.iter) if isinstance(node, (ast.Name, ast.Attribute))}
                for node in [node for row in loop.body for node in ast.walk(row)]:
                    if isinstance(node, ast.Subscript) and isinstance(node.ctx, (ast.Store, ast.Del)):
                        self.assertNotIn(ast.unparse(node.value), over, (path, node.lineno))
                    elif isinstance(node, ast.Call) and isinstance(node.func, ast.Attribute) and node.func.attr in changing:
                        self.assertNotIn(ast.unparse(node.func.value), over, (path, node.lineno))

    def test_the_interface_is_defined_where_it_is_listed(self):
        for stem, names in LISTED.items():
            tree = ast.parse((PACKAGE / (stem + ".py")).read_text(encoding="utf-8"))
            defined = {node.name for node in tree.body if isinstance(node, (ast.FunctionDef, ast.ClassDef))}
            self.assertLessEqual(set(names), defined)


if __name__ == "__main__":
    unittest.main()
