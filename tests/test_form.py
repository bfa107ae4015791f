"""The part of Python that the package keeps to: what of it can be seen in the files, by the numbers of its rules."""

import ast
import builtins
import pathlib
import re
import unittest

PACKAGE = pathlib.Path(__file__).resolve().parent.parent / "whenstated"

OWN_NAMES = set("""len range enumerate zip min max sum abs sorted reversed int str bool list tuple dict set frozenset
    isinstance ord repr any all divmod Exception ValueError TypeError KeyError IndexError LookupError ZeroDivisionError
    ArithmeticError OverflowError RuntimeError NotImplementedError StopIteration""".split())

OWN_METHODS = set("""append clear copy count endswith extend find get index insert isalnum isalpha isdigit islower
    isspace isupper items join keys ljust lower lstrip partition pop remove replace reverse rfind rjust rpartition
    rsplit rstrip setdefault split splitlines startswith strip update upper values zfill bit_length""".split())

BARRED_NAMES = set("""register mro elements open input version_info with_traceback add_note attrgetter breakpoint
    builtins compile copyright credits delattr dir eval exec exit gc getattr globals hasattr help id importlib license
    locals methodcaller os quit setattr super vars sys""".split())

BARRED_WORDS = re.compile(r"\b(type|typing|typing_extensions|enum|Enum|IntEnum|StrEnum|Flag|IntFlag|Generic|Protocol|"
                          r"ABC|ABCMeta|namedtuple|NamedTuple|TypedDict|TYPE_CHECKING|abstractmethod)\b|"
                          r"dataclass|overload|contextmanager")

NODES = set("""Module Import ImportFrom alias FunctionDef arguments arg Lambda ClassDef Expr Assign AugAssign If While
    For Return Break Continue Pass Raise Try ExceptHandler Constant Name Load Store List Tuple Dict Set BinOp BoolOp
    UnaryOp Compare IfExp Call keyword Attribute Subscript Slice ListComp comprehension JoinedStr FormattedValue Add Sub
    Mult FloorDiv Mod Pow BitAnd BitOr BitXor LShift RShift Invert And Or Not USub UAdd Eq NotEq Lt LtE Gt GtE Is IsNot
    In NotIn""".split())


def files():
    return sorted(PACKAGE.rglob("*.py"))


def trees():
    return [(path.name, ast.parse(path.read_text(encoding="utf-8"))) for path in files()]


def nodes(*kinds):
    """(file and line, node) of all nodes of these kinds in the package."""
    return [(f"{name}:{getattr(node, 'lineno', 0)}", node) for name, tree in trees() for node in ast.walk(tree)
            if not kinds or isinstance(node, kinds)]


def is_plain(value, defs):
    """Whether a value at a file's top is a plain one, or holds plain ones and functions of the file."""
    if isinstance(value, (ast.List, ast.Tuple)):
        return all(is_plain(one, defs) for one in value.elts)
    if isinstance(value, ast.Dict):
        return all(is_plain(one, defs) for one in [*value.keys, *value.values])
    if isinstance(value, ast.UnaryOp):
        return isinstance(value.operand, ast.Constant)
    return isinstance(value, ast.Constant) or isinstance(value, ast.Name) and value.id in defs


class Files(unittest.TestCase):
    def test_l1_l14_only_plain_python_files(self):
        for path in PACKAGE.rglob("*"):
            if "__pycache__" in path.parts:
                continue
            self.assertTrue(path.is_dir() or re.fullmatch(r"[a-z0-9_]+\.py", path.name), path)
            self.assertNotIn(path.stem, dir(builtins))
            self.assertNotRegex(path.stem, r"^(tests?|testing|test_.*|site|conftest|sitecustomize|usercustomize)$")
        self.assertTrue((PACKAGE / "__init__.py").exists())

    def test_l10_l14_l17_signs_sizes_and_words(self):
        for path in files():
            rows = path.read_text(encoding="utf-8").split("\n")
            self.assertLessEqual(len(rows), 401, path)
            for number, row in enumerate(rows, start=1):
                self.assertLessEqual(len(row), 120, (path, number))
                self.assertRegex(row, r"^[ -~]*$", (path, number))
                self.assertIsNone(BARRED_WORDS.search(row), (path, number))

    def test_l10_functions_are_short(self):
        for place, node in nodes(ast.FunctionDef):
            self.assertLessEqual(node.end_lineno - node.lineno + 1, 40, place)


class Names(unittest.TestCase):
    def test_l8_l12_l15_names_that_are_bound(self):
        for place, node in nodes(ast.FunctionDef, ast.ClassDef, ast.arg, ast.Name):
            if isinstance(node, ast.Name) and not isinstance(node.ctx, ast.Store):
                continue
            name = getattr(node, "name", None) or getattr(node, "arg", None) or getattr(node, "id", None)
            if name == "__init__":
                continue
            self.assertRegex(name, r"^[A-Za-z][A-Za-z0-9_]*$", place)
            self.assertNotIn(name, dir(builtins), place)
            self.assertNotIn(name, BARRED_NAMES, place)

    def test_l15_no_local_like_an_import_or_a_class_and_each_name_once(self):
        for name, tree in trees():
            top = [alias.name for node in tree.body if isinstance(node, ast.ImportFrom) for alias in node.names]
            top += [node.name for node in tree.body if isinstance(node, ast.ClassDef)]
            inner = [node.arg for node in ast.walk(tree) if isinstance(node, ast.arg)]
            inner += [node.id for function in ast.walk(tree) if isinstance(function, ast.FunctionDef)
                      for node in ast.walk(function) if isinstance(node, ast.Name) and isinstance(node.ctx, ast.Store)]
            self.assertEqual(set(top) & set(inner), set(), name)
            top += [node.name for node in tree.body if isinstance(node, ast.FunctionDef)]
            top += [node.targets[0].id for node in tree.body if isinstance(node, ast.Assign)]
            self.assertEqual(len(top), len(set(top)), name)

    def test_l8_l17_pythons_own_names(self):
        for place, node in nodes(ast.Name):
            if node.id in dir(builtins):
                self.assertIn(node.id, OWN_NAMES, place)
            self.assertNotIn(node.id, BARRED_NAMES, place)

    def test_l25_methods_are_own_or_listed(self):
        own = {node.name for place, node in nodes(ast.FunctionDef)}
        for place, node in nodes(ast.Call):
            if isinstance(node.func, ast.Attribute):
                self.assertIn(node.func.attr, OWN_METHODS | own, place)

    def test_l18_l26_values_of_objects(self):
        methods = {node.name for place, owner in nodes(ast.ClassDef) for node in owner.body[1:]}
        pythons = {name for kind in (str, int, list, dict, set, bytes, tuple) for name in dir(kind)}
        for place, node in nodes(ast.Attribute):
            if isinstance(node.ctx, ast.Store):
                self.assertNotIn(node.attr, methods | pythons | BARRED_NAMES, place)


class Forms(unittest.TestCase):
    def test_l6_l7_nothing_but_the_told_forms(self):
        for place, node in nodes():
            self.assertIn(node.__class__.__name__, NODES, place)
            if isinstance(node, (ast.For, ast.While)):
                self.assertEqual(node.orelse, [], place)
            if isinstance(node, ast.Assign):
                self.assertEqual(len(node.targets), 1, place)
            if isinstance(node, ast.Constant):
                self.assertIsInstance(node.value, (int, str, bool, None.__class__), place)
            if isinstance(node, ast.ListComp):
                self.assertEqual(len(node.generators), 1, place)
                self.assertLessEqual(len(node.generators[0].ifs), 1, place)
            if isinstance(node, ast.FormattedValue):
                self.assertIsInstance(node.value, ast.Name, place)

    def test_l2_l16_imports_of_the_package_alone_from_the_file_that_defines_the_name(self):
        bound = {}
        for name, tree in trees():
            bound["whenstated." + name[:-3]] = {node.name for node in tree.body if hasattr(node, "name")} | {
                node.targets[0].id for node in tree.body if isinstance(node, ast.Assign)}
        for place, node in nodes(ast.Import):
            self.fail(place)
        for place, node in nodes(ast.ImportFrom):
            self.assertEqual(node.level, 0, place)
            for alias in node.names:
                self.assertIsNone(alias.asname, place)
                self.assertIn(alias.name, bound.get(node.module, ()), place)

    def test_l16_no_two_files_draw_from_one_another(self):
        draws = {name[:-3]: {node.module.split(".")[-1] for node in tree.body if isinstance(node, ast.ImportFrom)}
                 for name, tree in trees()}
        self.assertEqual(draws["__init__"], set())
        while draws:
            free = [name for name in draws if not draws[name] & set(draws)]
            self.assertTrue(free, draws)
            for name in free:
                draws.pop(name)

    def test_l3_the_top_of_a_file(self):
        for name, tree in trees():
            self.assertIsNotNone(ast.get_docstring(tree), name)
            defs = {node.name for node in tree.body if isinstance(node, ast.FunctionDef)}
            for node in tree.body[1:]:
                self.assertIsInstance(node, (ast.ImportFrom, ast.FunctionDef, ast.ClassDef, ast.Assign), name)
                if isinstance(node, ast.Assign):
                    self.assertTrue(is_plain(node.value, defs), f"{name}:{node.lineno}")

    def test_l4_l5_l21_functions_and_classes(self):
        for place, node in nodes(ast.FunctionDef):
            self.assertEqual(node.decorator_list, [], place)
            self.assertIsNone(node.args.vararg or node.args.kwarg or node.returns, place)
            self.assertEqual(node.args.kwonlyargs + node.args.posonlyargs, [], place)
        for place, node in nodes(ast.arg):
            self.assertIsNone(node.annotation, place)
        for place, node in nodes(ast.ClassDef):
            self.assertLessEqual(len(node.bases), 1, place)
            self.assertEqual(node.decorator_list + node.keywords, [], place)
            for inner in node.body[1:]:
                self.assertIsInstance(inner, ast.FunctionDef, place)

    def test_l20_is_stands_beside_none_true_and_false_alone(self):
        for place, node in nodes(ast.Compare):
            for sign, right in zip(node.ops, node.comparators):
                if isinstance(sign, (ast.Is, ast.IsNot)):
                    self.assertIsInstance(right, ast.Constant, place)

    def test_l22_pythons_own_functions_are_called_and_not_kept(self):
        called = [node.func for place, node in nodes(ast.Call)]
        called = {ast.dump(one, include_attributes=True) for one in called}
        for place, node in nodes(ast.Name):
            if node.id in OWN_NAMES and isinstance(getattr(builtins, node.id), (type, type(len))):
                self.assertIn(ast.dump(node, include_attributes=True), called, place)

    def test_l24_sets_stand_within_sorted_or_len_alone(self):
        within = [one for place, node in nodes(ast.Call) if getattr(node.func, "id", None) in ("sorted", "len")
                  for one in node.args if not node.keywords]
        for place, node in nodes(ast.Set, ast.Call):
            if isinstance(node, ast.Set) or getattr(node.func, "id", None) in ("set", "frozenset"):
                dumped = [ast.dump(one, include_attributes=True) for one in within]
                self.assertIn(ast.dump(node, include_attributes=True), dumped, place)

    def test_l23_walked_at_once(self):
        walked = set()
        for place, node in nodes(ast.For, ast.comprehension):
            walked.add(ast.dump(node.iter, include_attributes=True))
        for place, node in nodes(ast.Call):
            if isinstance(node.func, ast.Name) and node.func.id in ("list", "tuple", "dict", "sorted", "sum", "any",
                                                                    "all", "enumerate", "zip"):
                walked.update(ast.dump(one, include_attributes=True) for one in node.args)
        for place, node in nodes(ast.Call):
            name = getattr(node.func, "id", None) or getattr(node.func, "attr", None)
            if name in ("zip", "enumerate", "reversed", "range", "items", "keys", "values"):
                self.assertIn(ast.dump(node, include_attributes=True), walked, place)


if __name__ == "__main__":
    unittest.main()
