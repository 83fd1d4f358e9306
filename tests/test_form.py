"""The form of the package's files, as far as it can be seen rule by rule (L1 to L28 of LANGUAGE.md)."""

import ast
import builtins
import pathlib
import re
import unittest

PACKAGE = pathlib.Path(__file__).resolve().parent.parent / "flagroll"

ALLOWED_NODES = """
    Module FunctionDef ClassDef Lambda arguments arg Import ImportFrom alias
    Assign AugAssign AnnAssign If While For Return Break Continue Pass Raise Try ExceptHandler Expr
    Constant List Tuple Dict Set Name Load Store Attribute Subscript Slice Call keyword
    BinOp Add Sub Mult FloorDiv Mod Pow BitAnd BitOr BitXor LShift RShift
    UnaryOp USub UAdd Invert Not BoolOp And Or
    Compare Eq NotEq Lt LtE Gt GtE Is IsNot In NotIn IfExp ListComp comprehension JoinedStr FormattedValue
""".split()

ALLOWED_BUILTINS = """
    len range enumerate zip min max sum abs sorted reversed int str bool list tuple dict set frozenset
    isinstance ord repr any all divmod
    Exception ValueError TypeError KeyError IndexError LookupError ZeroDivisionError ArithmeticError
    OverflowError RuntimeError NotImplementedError AttributeError StopIteration
""".split()

ALLOWED_METHODS = """
    append clear copy count endswith extend find get index insert isalnum isalpha isdigit islower isspace
    isupper items join keys ljust lower lstrip partition pop remove replace reverse rfind rjust rpartition
    rsplit rstrip setdefault split splitlines startswith strip update upper values zfill bit_length
""".split()

SPECIAL_METHODS = ["__init__", "__eq__", "__repr__", "__str__", "__len__"]

BARRED_WORDS = """
    type typing typing_extensions enum Enum IntEnum StrEnum Flag IntFlag Generic Protocol ABC ABCMeta
    namedtuple NamedTuple TypedDict TYPE_CHECKING abstractmethod
""".split()


def package_files():
    return sorted(path for path in PACKAGE.rglob("*") if "__pycache__" not in path.parts)


def package_texts():
    return [(path.name, path.read_bytes().decode("utf-8")) for path in package_files() if path.is_file()]


def package_trees():
    return [(name, ast.parse(text)) for name, text in package_texts()]


def nodes_of(kinds):
    return [(name, node) for name, tree in package_trees() for node in ast.walk(tree) if isinstance(node, kinds)]


def methods_defined():
    return [(name, part.name) for name, node in nodes_of(ast.ClassDef)
            for part in node.body if isinstance(part, ast.FunctionDef)]


def names_bound():
    bound = [(name, node.name) for name, node in nodes_of((ast.FunctionDef, ast.ClassDef))]
    bound = [pair for pair in bound if pair not in methods_defined()]
    bound = bound + [(name, node.arg) for name, node in nodes_of(ast.arg)]
    return bound + [(name, node.id) for name, node in nodes_of(ast.Name) if isinstance(node.ctx, ast.Store)]


class FilesTest(unittest.TestCase):
    def test_files_have_plain_names(self):
        self.assertIn(PACKAGE / "__init__.py", package_files())
        for path in package_files():
            self.assertRegex(path.name, r"\A(__init__|__main__|[a-z][a-z0-9_]*)\.py\Z")

    def test_signs_and_sizes(self):
        for name, text in package_texts():
            self.assertEqual(re.findall(r"[^ -~\n]", text), [], name)
            self.assertLessEqual(len(text.splitlines()), 400, name)
            self.assertLessEqual(max([len(line) for line in text.splitlines()]), 120, name)

    def test_barred_words_stand_nowhere(self):
        for name, text in package_texts():
            words = re.findall(r"\w+", text)
            self.assertEqual([word for word in words if word in BARRED_WORDS], [], name)
            self.assertEqual(re.findall("dataclass|overload|contextmanager", text), [], name)

    def test_functions_are_small(self):
        for name, node in nodes_of(ast.FunctionDef):
            self.assertLessEqual(node.end_lineno - node.lineno + 1, 40, (name, node.name))


def modules_drawn_from(tree):
    return sorted({node.module.split(".")[1] for node in ast.walk(tree) if isinstance(node, ast.ImportFrom)})


def is_plain(value):
    if isinstance(value, (ast.List, ast.Tuple)):
        return all(is_plain(part) for part in value.elts)
    if isinstance(value, ast.Dict):
        return all(is_plain(part) for part in value.keys + value.values)
    return isinstance(value, ast.Constant)


class TopTest(unittest.TestCase):
    def test_plain_values_each_name_once(self):
        for name, tree in package_trees():
            given = [part for part in tree.body if isinstance(part, ast.Assign)]
            for part in given:
                self.assertTrue(is_plain(part.value), (name, part.lineno))
            bound = [part.targets[0].id for part in given]
            bound = bound + [part.name for part in tree.body if isinstance(part, (ast.FunctionDef, ast.ClassDef))]
            self.assertEqual(len(set(bound)), len(bound), name)

    def test_no_two_files_draw_from_one_another(self):
        left = {name[:-3]: modules_drawn_from(tree) for name, tree in package_trees()}
        while left:
            done = [name for name, drawn in left.items() if not any(other in left for other in drawn)]
            self.assertNotEqual(done, [], left)
            left = {name: drawn for name, drawn in left.items() if name not in done}


class LanguageTest(unittest.TestCase):
    def test_only_the_allowed_parts_of_the_language(self):
        for name, node in nodes_of(ast.AST):
            self.assertIn(type(node).__name__, ALLOWED_NODES, (name, getattr(node, "lineno", 0)))

    def test_imports_are_of_the_package_alone(self):
        for name, node in nodes_of((ast.Import, ast.ImportFrom)):
            self.assertIsInstance(node, ast.ImportFrom, name)
            self.assertRegex(node.module, r"\Aflagroll\.[a-z][a-z0-9_]*\Z")
            defined = ast.parse((PACKAGE / (node.module.split(".")[1] + ".py")).read_text("utf-8")).body
            names = [part.name for part in defined if isinstance(part, (ast.FunctionDef, ast.ClassDef))]
            names = names + [part.targets[0].id for part in defined if isinstance(part, ast.Assign)]
            for alias in node.names:
                self.assertIn(alias.name, names, name)

    def test_names_of_pythons_own(self):
        for name, node in nodes_of(ast.Name):
            if hasattr(builtins, node.id):
                self.assertIn(node.id, ALLOWED_BUILTINS, (name, node.lineno))
        for name, bound in names_bound():
            self.assertFalse(hasattr(builtins, bound), (name, bound))

    def test_names_are_plain(self):
        for name, bound in names_bound() + methods_defined():
            if bound not in SPECIAL_METHODS:
                self.assertRegex(bound, r"\A[A-Za-z][A-Za-z0-9_]*\Z", name)

    def test_methods(self):
        own = [node.name for name, node in nodes_of(ast.FunctionDef)]
        for name, node in nodes_of(ast.Call):
            if isinstance(node.func, ast.Attribute):
                self.assertIn(node.func.attr, ALLOWED_METHODS + own, (name, node.lineno))

    def test_functions_take_plain_parameters(self):
        for name, node in nodes_of(ast.FunctionDef):
            self.assertEqual(node.decorator_list, [], (name, node.name))
            self.assertIsNone(node.args.vararg, (name, node.name))
            self.assertIsNone(node.args.kwarg, (name, node.name))
            self.assertEqual(node.args.kwonlyargs + node.args.posonlyargs, [], (name, node.name))

    def test_one_plain_target_in_an_assignment(self):
        for name, node in nodes_of(ast.Assign):
            self.assertEqual(len(node.targets), 1, (name, node.lineno))
            self.assertNotIsInstance(node.targets[0], (ast.Tuple, ast.List), (name, node.lineno))

    def test_zip_and_its_like_are_not_kept(self):
        for name, node in nodes_of(ast.Assign):
            if isinstance(node.value, ast.Call) and isinstance(node.value.func, ast.Name):
                self.assertNotIn(node.value.func.id, ["zip", "enumerate", "reversed", "range"], (name, node.lineno))

    def test_texts_have_no_sign_for_the_rest(self):
        for name, node in nodes_of(ast.Constant):
            if isinstance(node.value, str):
                self.assertNotIn("%", node.value, (name, node.lineno))

    def test_is_stands_beside_none_and_truths_alone(self):
        for name, node in nodes_of(ast.Compare):
            for sign, right in zip(node.ops, node.comparators):
                if isinstance(sign, (ast.Is, ast.IsNot)):
                    self.assertIsInstance(right, ast.Constant, (name, node.lineno))
                    self.assertIn(right.value, (None, True, False), (name, node.lineno))


if __name__ == "__main__":
    unittest.main()
