"""The form of the package's code: a small part of Python, and no clock, chance, file or outside package (point 1)."""

import ast
import builtins
import pathlib
import re
import unittest

PACKAGE = pathlib.Path(__file__).resolve().parent.parent / "oathduel"

OWN_NAMES = frozenset(
    "len range enumerate zip min max sum abs sorted reversed int str bool list tuple dict set frozenset isinstance"
    " ord repr any all divmod Exception ValueError TypeError KeyError IndexError LookupError ZeroDivisionError"
    " ArithmeticError OverflowError RuntimeError NotImplementedError AttributeError StopIteration".split()
)

METHODS = frozenset("__init__ __eq__ __repr__ __str__ __len__".split())

PYTHONS_METHODS = frozenset(
    "append clear copy count endswith extend find get index insert isalnum isalpha isdigit islower isspace isupper"
    " items join keys ljust lower lstrip partition pop remove replace reverse rfind rjust rpartition rsplit rstrip"
    " setdefault split splitlines startswith strip update upper values zfill bit_length".split()
)

NO_WORDS = re.compile(
    r"\b(type|typing|typing_extensions|enum|Enum|IntEnum|StrEnum|Flag|IntFlag|Generic|Protocol|ABC|ABCMeta|namedtuple"
    r"|NamedTuple|TypedDict|TYPE_CHECKING|abstractmethod)\b|dataclass|overload|contextmanager"
)

NODES = tuple(
    getattr(ast, name) for name in (
        "Module Expr Constant ImportFrom alias FunctionDef arguments arg Lambda ClassDef Assign AugAssign If While For"
        " Return Break Continue Pass Raise Try ExceptHandler Name Load Store Attribute Subscript Slice Call keyword"
        " List Tuple Dict Set ListComp comprehension BinOp UnaryOp BoolOp Compare IfExp JoinedStr FormattedValue"
        " operator unaryop boolop cmpop"
    ).split()
)


def files():
    return sorted(PACKAGE.glob("*.py"))


def trees():
    return [(path.name, ast.parse(path.read_text(encoding="utf-8"))) for path in files()]


def nodes():
    return [(name, node) for name, tree in trees() for node in ast.walk(tree)]


def bound_names(tree):
    """All names that a file gives a meaning."""
    names = []
    for node in ast.walk(tree):
        if isinstance(node, (ast.FunctionDef, ast.ClassDef)):
            names.append(node.name)
        elif isinstance(node, ast.arg):
            names.append(node.arg)
        elif isinstance(node, ast.Name) and isinstance(node.ctx, ast.Store):
            names.append(node.id)
        elif isinstance(node, ast.alias):
            names.append(node.asname or node.name)
        elif isinstance(node, ast.ExceptHandler) and node.name:
            names.append(node.name)
    return names


class FilesTest(unittest.TestCase):
    def test_the_package_holds_python_files_alone(self):
        others = [path.name for path in PACKAGE.iterdir() if path.name != "__pycache__" and path not in files()]
        self.assertEqual(others, [])
        for path in files():
            self.assertRegex(path.name, r"^([a-z][a-z0-9_]*|__init__|__main__)\.py$")

    def test_signs_and_sizes(self):
        for path in files():
            rows = path.read_bytes().decode("ascii").split("\n")
            self.assertLessEqual(len(rows), 400, path.name)
            for number, row in enumerate(rows, start=1):
                self.assertRegex(row, r"^[ -~]{0,120}$", f"{path.name}:{number}")

    def test_words_that_stand_nowhere(self):
        for path in files():
            self.assertIsNone(NO_WORDS.search(path.read_text(encoding="utf-8")), path.name)


class CodeTest(unittest.TestCase):
    def test_only_the_packages_own_files_are_drawn_from(self):
        here = {f"oathduel.{path.stem}" for path in files()}
        for name, node in nodes():
            if isinstance(node, ast.ImportFrom):
                self.assertEqual(node.level, 0, name)
                self.assertIn(node.module, here, name)
                self.assertNotIn("*", [alias.name for alias in node.names], name)

    def test_no_two_files_draw_from_one_another(self):
        drawn = {
            name: {node.module.split(".")[1] + ".py" for node in ast.walk(tree) if isinstance(node, ast.ImportFrom)}
            for name, tree in trees()
        }
        for count in range(len(drawn)):
            free = {name for name, froms in drawn.items() if not froms}
            drawn = {name: froms - free for name, froms in drawn.items() if name not in free}
        self.assertEqual(drawn, {})

    def test_only_plain_parts_of_python_are_used(self):
        for name, node in nodes():
            self.assertIsInstance(node, NODES, f"{name}:{getattr(node, 'lineno', 0)}")

    def test_texts_by_themselves_stand_at_the_top_alone(self):
        for name, tree in trees():
            for node in ast.walk(tree):
                if isinstance(node, ast.Expr) and node not in tree.body:
                    self.assertIsInstance(node.value, ast.Call, f"{name}:{node.lineno}")

    def test_functions_are_short(self):
        for name, node in nodes():
            if isinstance(node, ast.FunctionDef):
                self.assertLessEqual(node.end_lineno - node.lineno + 1, 40, f"{name}: {node.name}")
                self.assertEqual(node.decorator_list, [], name)
                self.assertIsNone(node.args.vararg or node.args.kwarg, name)

    def test_only_these_of_pythons_own_names_are_used(self):
        for name, tree in trees():
            bound = set(bound_names(tree))
            for node in ast.walk(tree):
                if isinstance(node, ast.Name):
                    self.assertIn(node.id, bound | OWN_NAMES, f"{name}:{node.lineno}")

    def test_no_name_has_another_meaning_than_pythons(self):
        for name, tree in trees():
            for bound in bound_names(tree):
                if bound not in METHODS:
                    self.assertRegex(bound, r"^[A-Za-z][A-Za-z0-9_]*$", name)
                    self.assertNotIn(bound, dir(builtins), name)

    def test_each_name_at_a_files_top_is_bound_once(self):
        for name, tree in trees():
            flat = ast.Module([node for node in tree.body if isinstance(node, (ast.ImportFrom, ast.Assign))], [])
            names = bound_names(flat)
            names += [node.name for node in tree.body if isinstance(node, (ast.FunctionDef, ast.ClassDef))]
            self.assertEqual(sorted(names), sorted(set(names)), name)

    def test_methods_are_pythons_plain_ones_or_the_packages_own(self):
        own = {node.name for name, node in nodes() if isinstance(node, ast.FunctionDef)}
        for name, node in nodes():
            if isinstance(node, ast.Call) and isinstance(node.func, ast.Attribute):
                self.assertIn(node.func.attr, PYTHONS_METHODS | own, f"{name}:{node.lineno}")

    def test_keywords_of_pythons_own_functions(self):
        allowed = {
            "sorted": {"key", "reverse"}, "min": {"key", "default"}, "max": {"key", "default"}, "sum": {"start"},
            "enumerate": {"start"}, "zip": {"strict"},
        }
        for name, node in nodes():
            if isinstance(node, ast.Call) and isinstance(node.func, ast.Name) and node.func.id in dir(builtins):
                words = {keyword.arg for keyword in node.keywords}
                self.assertLessEqual(words, allowed.get(node.func.id, set()), f"{name}:{node.lineno}")

    def test_an_assignment_has_one_target(self):
        for name, node in nodes():
            if isinstance(node, ast.Assign):
                self.assertEqual(len(node.targets), 1, f"{name}:{node.lineno}")
                self.assertNotIsInstance(node.targets[0], (ast.Tuple, ast.List), f"{name}:{node.lineno}")

    def test_errors_are_taken_by_the_packages_own_names(self):
        own = {node.name for name, node in nodes() if isinstance(node, ast.ClassDef)}
        for name, node in nodes():
            if isinstance(node, ast.ExceptHandler):
                self.assertIsInstance(node.type, ast.Name, f"{name}:{node.lineno}")
                self.assertIn(node.type.id, own, f"{name}:{node.lineno}")
            if isinstance(node, ast.Try):
                self.assertEqual(node.finalbody, [], f"{name}:{node.lineno}")

    def test_names_of_pythons_own_functions_are_called_alone(self):
        for name, tree in trees():
            called = [node.func for node in ast.walk(tree) if isinstance(node, ast.Call)]
            given = [node.value for node in ast.walk(tree) if isinstance(node, ast.keyword) and node.arg == "key"]
            asked = [node.args[1] for node in ast.walk(tree) if isinstance(node, ast.Call) and node.args[1:]
                     and isinstance(node.func, ast.Name) and node.func.id == "isinstance"]
            kinds = [kind for node in asked for kind in ast.walk(node)]
            for node in ast.walk(tree):
                if isinstance(node, ast.Name) and node.id in OWN_NAMES and node.id[0].islower():
                    self.assertIn(node, called + given + kinds, f"{name}:{node.lineno}")

    def test_is_stands_beside_none_true_and_false_alone(self):
        for name, node in nodes():
            if isinstance(node, ast.Compare) and isinstance(node.ops[0], (ast.Is, ast.IsNot)):
                self.assertIsInstance(node.comparators[0], ast.Constant, f"{name}:{node.lineno}")
                self.assertIn(node.comparators[0].value, (None, True, False), f"{name}:{node.lineno}")

    def test_no_name_is_a_method_here_and_a_value_there(self):
        methods = set()
        values = set()
        for name, node in nodes():
            if isinstance(node, ast.ClassDef):
                methods |= {part.name for part in node.body if isinstance(part, ast.FunctionDef)}
            if isinstance(node, ast.Attribute) and isinstance(node.ctx, ast.Store):
                values.add(node.attr)
        self.assertEqual(methods & values, set())
        for value in values:
            for kind in (str, int, list, dict, set, bytes, tuple):
                self.assertFalse(hasattr(kind, value), value)

    def test_powers_have_a_written_exponent(self):
        for name, node in nodes():
            if isinstance(node, (ast.BinOp, ast.AugAssign)) and isinstance(node.op, ast.Pow):
                self.assertIsInstance(node.right, ast.Constant, f"{name}:{node.lineno}")

    def test_what_is_walked_is_walked_on_the_spot(self):
        takers = {"list", "tuple", "dict", "sorted", "sum", "any", "all", "enumerate", "zip", "min", "max"}
        for name, tree in trees():
            walked = [node.iter for node in ast.walk(tree) if isinstance(node, (ast.For, ast.comprehension))]
            walked += [node.args[0] for node in ast.walk(tree) if isinstance(node, ast.Call) and node.args
                       and isinstance(node.func, ast.Name) and node.func.id in takers]
            for node in ast.walk(tree):
                if isinstance(node, ast.Call) and isinstance(node.func, ast.Name):
                    if node.func.id in ("zip", "enumerate", "reversed", "range"):
                        self.assertIn(node, walked, f"{name}:{node.lineno}")

    def test_no_fractions_and_no_percent_sign_in_texts(self):
        for name, node in nodes():
            self.assertNotIsInstance(node, ast.Div, name)
            if isinstance(node, ast.Constant):
                self.assertIsInstance(node.value, (int, str, type(None)), name)
                self.assertNotIn("%", str(node.value), name)


if __name__ == "__main__":
    unittest.main()
