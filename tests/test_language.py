"""The package keeps to the part of Python that LANGUAGE.md tells, as far as a walk through its files can see."""

import ast
import builtins
import pathlib
import re
import unittest

ROOT = pathlib.Path(__file__).resolve().parent.parent
PACKAGE = ROOT / "pricecover"
FILES = sorted(PACKAGE.rglob("*.py"))

STATEMENTS = (ast.Assign, ast.AugAssign, ast.If, ast.While, ast.For, ast.Return, ast.Break, ast.Continue, ast.Pass,
              ast.Raise, ast.Try, ast.Expr, ast.FunctionDef, ast.ClassDef, ast.ImportFrom)
EXPRESSIONS = (ast.Constant, ast.List, ast.Tuple, ast.Dict, ast.BinOp, ast.UnaryOp, ast.BoolOp, ast.Compare, ast.IfExp,
               ast.Call, ast.Attribute, ast.Subscript, ast.Slice, ast.ListComp, ast.JoinedStr, ast.FormattedValue,
               ast.Name, ast.Lambda)
BUILTINS = ("len range enumerate zip min max sum abs sorted reversed int str bool list tuple dict set frozenset "
            "isinstance ord repr any all divmod Exception ValueError TypeError KeyError IndexError LookupError "
            "ZeroDivisionError ArithmeticError OverflowError RuntimeError NotImplementedError AttributeError "
            "StopIteration").split()
METHODS = ("append clear copy count endswith extend find get index insert isalnum isalpha isdigit islower isspace "
           "isupper items join keys ljust lower lstrip partition pop remove replace reverse rfind rjust rpartition "
           "rsplit rstrip setdefault split splitlines startswith strip update upper values zfill bit_length").split()
BARRED_WORDS = ("type typing typing_extensions enum Enum IntEnum StrEnum Flag IntFlag Generic Protocol ABC ABCMeta "
                "namedtuple NamedTuple TypedDict TYPE_CHECKING abstractmethod").split()
BARRED_PARTS = ("dataclass", "overload", "contextmanager")
WALKED = ("zip", "enumerate", "reversed", "range", "items", "keys", "values")
WALKERS = ("list", "tuple", "dict", "sorted", "sum", "any", "all", "enumerate", "zip")
BARRED_NAMES = "register mro elements open input version_info with_traceback add_note".split()


def bound_names(tree):
    names = []
    for node in ast.walk(tree):
        if isinstance(node, ast.Name) and isinstance(node.ctx, ast.Store):
            names.append(node.id)
        elif isinstance(node, ast.arg):
            names.append(node.arg)
        elif isinstance(node, (ast.FunctionDef, ast.ClassDef)):
            names.append(node.name)
        elif isinstance(node, ast.ImportFrom):
            names += [alias.asname or alias.name for alias in node.names]
        elif isinstance(node, ast.ExceptHandler) and node.name:
            names.append(node.name)
    return names


def names_of_the_top(tree):
    names = []
    for node in tree.body:
        if isinstance(node, (ast.FunctionDef, ast.ClassDef)):
            names.append(node.name)
        elif isinstance(node, ast.Assign):
            names += [target.id for target in node.targets]
    return names


def names_brought_in(tree):
    imports = [node for node in tree.body if isinstance(node, ast.ImportFrom)]
    return [alias.asname or alias.name for node in imports for alias in node.names]


def files_drawn_from(tree):
    return [node.module.split(".")[-1] + ".py" for node in tree.body if isinstance(node, ast.ImportFrom)]


def is_walked_at_once(node, above):
    """Whether a call like zip(..) or d.items() stands where it is walked on the spot."""
    if isinstance(above, (ast.For, ast.comprehension)):
        return above.iter is node
    if not isinstance(above, ast.Call):
        return False
    if isinstance(above.func, ast.Attribute):
        return above.func.attr == "join" and isinstance(above.func.value, ast.Constant)
    if above.func.id in ("min", "max"):
        return above.args == [node]
    return above.func.id in WALKERS and above.args[0] is node


TREES = [(path.name, ast.parse(path.read_text(encoding="ascii"))) for path in FILES]


class Language(unittest.TestCase):
    def test_the_package_holds_python_files_alone(self):
        found = [path for path in PACKAGE.rglob("*") if "__pycache__" not in path.parts]
        self.assertEqual(sorted(path for path in found if path.is_file()), FILES)
        self.assertIn(PACKAGE / "__init__.py", FILES)
        for path in found:
            self.assertRegex(path.stem, r"^[a-z][a-z0-9_]*$|^__init__$|^__main__$")

    def test_signs_and_sizes(self):
        for path in FILES:
            text = path.read_bytes().decode("ascii")
            self.assertRegex(text, r"\A[\n -~]*\Z")
            self.assertLessEqual(len(text.splitlines()), 400)
            self.assertLessEqual(max(len(line) for line in text.splitlines()), 120)

    def test_barred_words(self):
        for path in FILES:
            text = path.read_text()
            for word in re.findall(r"\w+", text):
                self.assertNotIn(word, BARRED_WORDS, path.name)
            for part in BARRED_PARTS:
                self.assertNotIn(part, text, path.name)

    def test_imports(self):
        for name, tree in TREES:
            with self.subTest(file=name):
                for node in ast.walk(tree):
                    if isinstance(node, ast.ImportFrom):
                        self.assertIn(node, tree.body)
                        self.assertEqual(node.level, 0)
                        self.assertRegex(node.module, r"^pricecover\.[a-z]+$")
                        source = ast.parse((ROOT / (node.module.replace(".", "/") + ".py")).read_text())
                        for alias in node.names:
                            self.assertIn(alias.name, names_of_the_top(source))

    def test_statements_and_expressions(self):
        for name, tree in TREES:
            with self.subTest(file=name):
                for node in ast.walk(tree):
                    if isinstance(node, ast.stmt):
                        self.assertIsInstance(node, STATEMENTS, ast.dump(node))
                    if isinstance(node, ast.expr):
                        self.assertIsInstance(node, EXPRESSIONS, ast.dump(node))
                    if isinstance(node, ast.Expr):
                        self.assertTrue(isinstance(node.value, ast.Call) or node is tree.body[0], ast.dump(node))
                    if isinstance(node, (ast.For, ast.While)):
                        self.assertEqual(node.orelse, [])
                    if isinstance(node, ast.Try):
                        self.assertEqual(node.finalbody, [])
                    if isinstance(node, ast.Assign):
                        self.assertEqual(len(node.targets), 1)
                    if isinstance(node, ast.ListComp):
                        self.assertEqual(len(node.generators), 1)
                        self.assertLessEqual(len(node.generators[0].ifs), 1)
                    self.assertNotIsInstance(node, (ast.Div, ast.MatMult, ast.Pow))
                    if isinstance(node, ast.Constant):
                        self.assertIsInstance(node.value, (int, str, type(None)))
                        self.assertNotIn("%", str(node.value))

    def test_functions_and_classes(self):
        for name, tree in TREES:
            with self.subTest(file=name):
                for node in ast.walk(tree):
                    if isinstance(node, ast.FunctionDef):
                        self.assertLessEqual(node.end_lineno - node.lineno + 1, 40)
                        self.assertEqual(node.decorator_list, [])
                        self.assertIsNone(node.args.vararg)
                        self.assertIsNone(node.args.kwarg)
                        self.assertEqual(node.args.kwonlyargs, [])
                    if isinstance(node, ast.ClassDef):
                        self.assertIn(node, tree.body)
                        self.assertLessEqual(len(node.bases), 1)
                        self.assertEqual(node.decorator_list + node.keywords, [])
                        for part in node.body:
                            self.assertIsInstance(part, (ast.FunctionDef, ast.Pass))

    def test_names(self):
        for name, tree in TREES:
            with self.subTest(file=name):
                bound = bound_names(tree)
                for word in bound:
                    if word != "__init__":
                        self.assertRegex(word, r"^[A-Za-z][A-Za-z0-9_]*$")
                    self.assertNotIn(word, dir(builtins))
                    self.assertNotIn(word, BARRED_NAMES)
                top = names_of_the_top(tree)
                self.assertEqual(len(top), len(set(top)))
                for node in ast.walk(tree):
                    if isinstance(node, ast.Name) and isinstance(node.ctx, ast.Load):
                        self.assertIn(node.id, bound + BUILTINS)
                    if isinstance(node, ast.Call) and isinstance(node.func, ast.Attribute):
                        self.assertIn(node.func.attr, METHODS + ["__init__"])

    def test_no_parameter_and_no_local_is_called_like_what_a_file_brings_in(self):
        for name, tree in TREES:
            with self.subTest(file=name):
                kept = names_brought_in(tree) + [node.name for node in tree.body if isinstance(node, ast.ClassDef)]
                for node in ast.walk(tree):
                    if isinstance(node, ast.Name) and isinstance(node.ctx, ast.Store):
                        self.assertNotIn(node.id, kept)
                    if isinstance(node, ast.arg):
                        self.assertNotIn(node.arg, kept)

    def test_no_two_files_draw_from_one_another(self):
        drawn = {name: files_drawn_from(tree) for name, tree in TREES}
        while drawn:
            free = [name for name in drawn if not set(drawn[name]) & set(drawn)]
            self.assertNotEqual(free, [], drawn)
            drawn = {name: drawn[name] for name in drawn if name not in free}

    def test_walked_at_once(self):
        for name, tree in TREES:
            with self.subTest(file=name):
                for above in ast.walk(tree):
                    for node in ast.iter_child_nodes(above):
                        if isinstance(node, ast.Call):
                            called = node.func.id if isinstance(node.func, ast.Name) else node.func.attr
                            if called in WALKED:
                                self.assertTrue(is_walked_at_once(node, above), ast.dump(node))

    def test_sets_are_not_made(self):
        for name, tree in TREES:
            for node in ast.walk(tree):
                if isinstance(node, ast.Name):
                    self.assertNotIn(node.id, ("set", "frozenset"), name)


if __name__ == "__main__":
    unittest.main()
