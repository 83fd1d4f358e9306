"""The form of the package's files, as far as it can be seen rule by rule (L1 to L28 of LANGUAGE.md)."""

import ast
import builtins
import functools
import pathlib
import re
import unittest

PACKAGE = pathlib.Path(__file__).resolve().parent.parent / "flagroll"

ALLOWED_NODES = """
    Module FunctionDef ClassDef Lambda arguments arg Import ImportFrom alias
    Assign AugAssign AnnAssign If While For Return Break Continue Pass Raise Try ExceptHandler Expr
    Constant List Tuple Dict Set Name Load Store Attribute Subscript Slice Call keyword
    BinOp Add Sub Mult FloorDiv Mod Pow BitAnd BitOr BitXor LShift RShift
    UnaryOp USub UAdd Invert Not BoolOp And Or
    Compare Eq NotEq Lt LtE Gt GtE Is IsNot In NotIn IfExp ListComp comprehension JoinedStr FormattedValue
""".split()

ALLOWED_BUILTINS = """
    len range enumerate zip min max sum abs sorted reversed int str bool list tuple dict set frozenset
    isinstance ord repr any all divmod
    Exception ValueError TypeError KeyError IndexError LookupError ZeroDivisionError ArithmeticError
    OverflowError RuntimeError NotImplementedError AttributeError StopIteration
""".split()

ALLOWED_METHODS = """
    append clear copy count endswith extend find get index insert isalnum isalpha isdigit islower isspace
    isupper items join keys ljust lower lstrip partition pop remove replace reverse rfind rjust rpartition
    rsplit rstrip setdefault split splitlines startswith strip update upper values zfill bit_length
""".split()

SPECIAL_METHODS = ["__init__", "__eq__", "__repr__", "__str__", "__len__"]

# Names that a method may share with one of Python's own, and names that a value of an object may share (L26).
SHARED_METHODS = ALLOWED_METHODS + ["add", "discard"]
SHARED_VALUES = "count index title find get join lower upper split strip copy add".split()

# Of what is made on the spot by these, nothing is kept (L23); they are walked within these, or behind an "in".
WALKED = ["zip", "enumerate", "reversed", "range"]
WALKED_METHODS = ["items", "keys", "values"]
WALKERS = ["list", "tuple", "dict", "sorted", "sum", "any", "all", "enumerate", "zip", "min", "max"]

BARRED_WORDS = """
    type typing typing_extensions enum Enum IntEnum StrEnum Flag IntFlag Generic Protocol ABC ABCMeta
    namedtuple NamedTuple TypedDict TYPE_CHECKING abstractmethod
""".split()


def package_files():
    return sorted(path for path in PACKAGE.rglob("*") if "__pycache__" not in path.parts)


def package_texts():
    return [(path.name, path.read_bytes().decode("utf-8")) for path in package_files() if path.is_file()]


@functools.lru_cache
def package_trees():
    return [(name, ast.parse(text)) for name, text in package_texts()]


def nodes_of(kinds):
    return [(name, node) for name, tree in package_trees() for node in ast.walk(tree) if isinstance(node, kinds)]


@functools.lru_cache
def methods_defined():
    return [(name, part.name) for name, node in nodes_of(ast.ClassDef)
            for part in node.body if isinstance(part, ast.FunctionDef)]


def names_bound():
    bound = [(name, node.name) for name, node in nodes_of((ast.FunctionDef, ast.ClassDef))]
    bound = [pair for pair in bound if pair not in methods_defined()]
    bound = bound + [(name, node.arg) for name, node in nodes_of(ast.arg)]
    return bound + [(name, node.id) for name, node in nodes_of(ast.Name) if isinstance(node.ctx, ast.Store)]


def values_given():
    """The names of the values that are given to objects."""
    return [(name, node.attr) for name, node in nodes_of(ast.Attribute) if isinstance(node.ctx, ast.Store)]


def called(node):
    """The name by which a call calls, a method's too, or None."""
    if not isinstance(node, ast.Call):
        return None
    return node.func.attr if isinstance(node.func, ast.Attribute) else getattr(node.func, "id", None)


def nodes_with_parents():
    return [(name, parent, node) for name, parent in nodes_of(ast.AST) for node in ast.iter_child_nodes(parent)]


class FilesTest(unittest.TestCase):
    def test_files_have_plain_names(self):
        self.assertIn(PACKAGE / "__init__.py", package_files())
        for path in package_files():
            self.assertRegex(path.name, r"\A(__init__|__main__|[a-z][a-z0-9_]*)\.py\Z")

    def test_signs_and_sizes(self):
        for name, text in package_texts():
            self.assertEqual(re.findall(r"[^ -~\n]", text), [], name)
            self.assertLessEqual(len(text.splitlines()), 400, name)
            self.assertLessEqual(max([len(line) for line in text.splitlines()]), 120, name)

    def test_barred_words_stand_nowhere(self):
        for name, text in package_texts():
            words = re.findall(r"\w+", text)
            self.assertEqual([word for word in words if word in BARRED_WORDS], [], name)
            self.assertEqual(re.findall("dataclass|overload|contextmanager", text), [], name)

    def test_functions_are_small(self):
        for name, node in nodes_of(ast.FunctionDef):
            self.assertLessEqual(node.end_lineno - node.lineno + 1, 40, (name, node.name))


def modules_drawn_from(tree):
    return sorted({node.module.split(".")[1] for node in ast.walk(tree) if isinstance(node, ast.ImportFrom)})


def is_plain(value):
    if isinstance(value, (ast.List, ast.Tuple)):
        return all(is_plain(part) for part in value.elts)
    if isinstance(value, ast.Dict):
        return all(is_plain(part) for part in value.keys + value.values)
    return isinstance(value, ast.Constant)


class TopTest(unittest.TestCase):
    def test_plain_values_each_name_once(self):
        for name, tree in package_trees():
            given = [part for part in tree.body if isinstance(part, ast.Assign)]
            for part in given:
                self.assertTrue(is_plain(part.value), (name, part.lineno))
            bound = [part.targets[0].id for part in given]
            bound = bound + [part.name for part in tree.body if isinstance(part, (ast.FunctionDef, ast.ClassDef))]
            self.assertEqual(len(set(bound)), len(bound), name)

    def test_no_two_files_draw_from_one_another(self):
        left = {name[:-3]: modules_drawn_from(tree) for name, tree in package_trees()}
        while left:
            done = [name for name, drawn in left.items() if not any(other in left for other in drawn)]
            self.assertNotEqual(done, [], left)
            left = {name: drawn for name, drawn in left.items() if name not in done}


class LanguageTest(unittest.TestCase):
    def test_only_the_allowed_parts_of_the_language(self):
        for name, node in nodes_of(ast.AST):
            self.assertIn(type(node).__name__, ALLOWED_NODES, (name, getattr(node, "lineno", 0)))

    def test_imports_are_of_the_package_alone(self):
        for name, node in nodes_of((ast.Import, ast.ImportFrom)):
            self.assertIsInstance(node, ast.ImportFrom, name)
            self.assertRegex(node.module, r"\Aflagroll\.[a-z][a-z0-9_]*\Z")
            defined = ast.parse((PACKAGE / (node.module.split(".")[1] + ".py")).read_text("utf-8")).body
            names = [part.name for part in defined if isinstance(part, (ast.FunctionDef, ast.ClassDef))]
            names = names + [part.targets[0].id for part in defined if isinstance(part, ast.Assign)]
            for alias in node.names:
                self.assertIn(alias.name, names, name)

    def test_names_of_pythons_own(self):
        for name, node in nodes_of(ast.Name):
            if hasattr(builtins, node.id):
                self.assertIn(node.id, ALLOWED_BUILTINS, (name, node.lineno))
        for name, bound in names_bound():
            self.assertFalse(hasattr(builtins, bound), (name, bound))

    def test_names_are_plain(self):
        for name, bound in names_bound() + methods_defined():
            if bound not in SPECIAL_METHODS:
                self.assertRegex(bound, r"\A[A-Za-z][A-Za-z0-9_]*\Z", name)

    def test_methods(self):
        own = [node.name for name, node in nodes_of(ast.FunctionDef)]
        for name, node in nodes_of(ast.Call):
            if isinstance(node.func, ast.Attribute):
                self.assertIn(node.func.attr, ALLOWED_METHODS + own, (name, node.lineno))

    def test_functions_take_plain_parameters(self):
        for name, node in nodes_of(ast.FunctionDef):
            self.assertEqual(node.decorator_list, [], (name, node.name))
            self.assertIsNone(node.args.vararg, (name, node.name))
            self.assertIsNone(node.args.kwarg, (name, node.name))
            self.assertEqual(node.args.kwonlyargs + node.args.posonlyargs, [], (name, node.name))

    def test_one_plain_target_in_an_assignment(self):
        for name, node in nodes_of(ast.Assign):
            self.assertEqual(len(node.targets), 1, (name, node.lineno))
            self.assertNotIsInstance(node.targets[0], (ast.Tuple, ast.List), (name, node.lineno))

    def test_zip_and_its_like_are_not_kept(self):
        for name, node in nodes_of(ast.Assign):
            if isinstance(node.value, ast.Call) and isinstance(node.value.func, ast.Name):
                self.assertNotIn(node.value.func.id, ["zip", "enumerate", "reversed", "range"], (name, node.lineno))

    def test_texts_have_no_sign_for_the_rest(self):
        for name, node in nodes_of(ast.Constant):
            if isinstance(node.value, str):
                self.assertNotIn("%", node.value, (name, node.lineno))

    def test_is_stands_beside_none_and_truths_alone(self):
        for name, node in nodes_of(ast.Compare):
            for sign, right in zip(node.ops, node.comparators):
                if isinstance(sign, (ast.Is, ast.IsNot)):
                    self.assertIsInstance(right, ast.Constant, (name, node.lineno))
                    self.assertIn(right.value, (None, True, False), (name, node.lineno))

    def test_a_comprehension_has_one_for_and_at_most_one_if(self):
        for name, node in nodes_of(ast.ListComp):
            self.assertEqual(len(node.generators), 1, (name, node.lineno))
            self.assertLessEqual(len(node.generators[0].ifs), 1, (name, node.lineno))

    def test_what_is_walked_is_walked_on_the_spot(self):
        for name, parent, node in nodes_with_parents():
            own_method = isinstance(node, ast.Call) and isinstance(node.func, ast.Attribute)
            if called(node) not in (WALKED_METHODS if own_method else WALKED):
                continue
            behind_in = isinstance(parent, (ast.For, ast.comprehension)) and parent.iter is node
            within = called(parent) in WALKERS and node in parent.args
            self.assertTrue(behind_in or within, (name, node.lineno))

    def test_sets_are_neither_kept_nor_walked(self):
        for name, parent, node in nodes_with_parents():
            if called(node) in ("set", "frozenset"):
                fits = called(parent) in ("len", "sorted") or isinstance(parent, (ast.Compare, ast.BinOp))
                self.assertTrue(fits, (name, node.lineno))

    def test_errors_are_taken_by_name(self):
        defined = [node.name for name, node in nodes_of(ast.ClassDef) if name == "errors.py"]
        for name, node in nodes_of(ast.ExceptHandler):
            taken = node.type.elts if isinstance(node.type, ast.Tuple) else [node.type]
            for error in taken:
                self.assertIn(error.id, defined, (name, node.lineno))
        for name, node in nodes_of(ast.Raise):
            self.assertIn(called(node.exc), defined, (name, node.lineno))


class ClassesTest(unittest.TestCase):
    def test_classes_are_plain(self):
        for name, node in nodes_of(ast.ClassDef):
            self.assertLessEqual(len(node.bases), 1, (name, node.name))
            self.assertEqual(node.decorator_list + node.keywords, [], (name, node.name))
            methods = [part.name for part in node.body if isinstance(part, ast.FunctionDef)]
            self.assertEqual(len(set(methods)), len(methods), (name, node.name))
            for part in node.body:
                self.assertIsInstance(part, (ast.FunctionDef, ast.Pass), (name, node.name))

    def test_no_name_is_a_method_and_a_value(self):
        methods = [method for name, method in methods_defined()]
        for name, value in values_given():
            self.assertNotIn(value, methods, name)

    def test_names_of_methods_and_values(self):
        own = {name for kind in (str, int, list, dict, set, frozenset, bytes, tuple) for name in dir(kind)}
        for name, method in methods_defined():
            self.assertTrue(method not in own or method in SHARED_METHODS + SPECIAL_METHODS, (name, method))
        for name, value in values_given():
            self.assertTrue(value not in own or value in SHARED_VALUES, (name, value))
            self.assertNotIn(value, ["args", "sort", "format", "encode"], name)

    def test_values_are_given_through_self(self):
        for name, node in nodes_of(ast.Attribute):
            if isinstance(node.ctx, ast.Store):
                self.assertEqual(node.value.id, "self", (name, node.lineno))

    def test_no_local_is_called_like_a_class_or_an_import(self):
        for name, tree in package_trees():
            nodes = list(ast.walk(tree))
            drawn = {alias.name for node in nodes if isinstance(node, ast.ImportFrom) for alias in node.names}
            drawn = drawn | {node.name for node in nodes if isinstance(node, ast.ClassDef)}
            given = {node.arg for node in nodes if isinstance(node, ast.arg)}
            names = [node for node in nodes if isinstance(node, ast.Name)]
            given = given | {node.id for node in names if isinstance(node.ctx, ast.Store)}
            self.assertEqual(given & drawn, set(), name)

    def test_an_init_gives_back_nothing(self):
        for name, node in nodes_of(ast.FunctionDef):
            if node.name == "__init__":
                self.assertEqual([part for part in ast.walk(node) if isinstance(part, ast.Return)], [], name)


if __name__ == "__main__":
    unittest.main()
