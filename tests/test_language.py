"""Holds the package's files against the rules of LANGUAGE.md that a walk over the code can see."""

import ast
import builtins
import pathlib
import re
import unittest

PACKAGE = pathlib.Path(__file__).resolve().parent.parent / "modulewood"

NODES = (
    "Module Import ImportFrom alias FunctionDef arguments arg ClassDef Lambda Assign AugAssign AnnAssign "
    "If While For Return Break Continue Pass Raise Try ExceptHandler Expr Constant List Tuple Dict Set "
    "BinOp UnaryOp BoolOp Compare IfExp Call Attribute Subscript Slice ListComp comprehension keyword "
    "JoinedStr FormattedValue Name Load Store Add Sub Mult FloorDiv Mod Pow BitAnd BitOr BitXor LShift RShift "
    "Invert USub UAdd Not And Or Eq NotEq Lt LtE Gt GtE Is IsNot In NotIn"
).split()
OWN_OF_PYTHON = (
    "len range enumerate zip min max sum abs sorted reversed int str bool list tuple dict set frozenset "
    "isinstance ord repr any all divmod Exception ValueError TypeError KeyError IndexError LookupError "
    "ZeroDivisionError ArithmeticError OverflowError RuntimeError NotImplementedError AttributeError StopIteration"
).split()
METHODS = (
    "append clear copy count endswith extend find get index insert isalnum isalpha isdigit islower isspace "
    "isupper items join keys ljust lower lstrip partition pop remove replace reverse rfind rjust rpartition "
    "rsplit rstrip setdefault split splitlines startswith strip update upper values zfill bit_length"
).split()
NOT_AS_NAMES = (
    "attrgetter breakpoint builtins compile copyright credits delattr dir eval exec exit gc getattr globals hasattr "
    "help id importlib license locals methodcaller os quit setattr super type vars sys __name__ register mro elements "
    "open input version_info with_traceback add_note"
).split()
WALKED = "zip enumerate reversed range items keys values".split()
WALKERS = "list tuple dict sorted sum any all enumerate zip min max join".split()
FREE_VALUES = "count index title find get join lower upper split strip copy add".split()
TWO_UNDERSCORES = "__init__ __eq__ __repr__ __str__ __len__".split()
WORDS = (
    r"\b(type|typing|typing_extensions|enum|Enum|IntEnum|StrEnum|Flag|IntFlag|Generic|Protocol|ABC|ABCMeta|"
    r"namedtuple|NamedTuple|TypedDict|TYPE_CHECKING|abstractmethod)\b|dataclass|overload|contextmanager"
)


def package_files():
    return sorted(path for path in PACKAGE.rglob("*") if path.is_file() and path.parent.name != "__pycache__")


def bound_names(tree):
    names = []
    for node in ast.walk(tree):
        if isinstance(node, ast.Name) and isinstance(node.ctx, ast.Store):
            names.append(node.id)
        elif isinstance(node, ast.arg):
            names.append(node.arg)
        elif isinstance(node, (ast.FunctionDef, ast.ClassDef)):
            names.append(node.name)
    return names


def called(node):
    """The name that a call calls, be it a function's or a method's; of other nodes None."""
    if not isinstance(node, ast.Call):
        return None
    return node.func.id if isinstance(node.func, ast.Name) else getattr(node.func, "attr", None)


def with_what_holds_it(tree):
    return [(node, held) for node in ast.walk(tree) for held in ast.iter_child_nodes(node)]


def all_methods(trees):
    return [node for tree in trees for kind in ast.walk(tree) if isinstance(kind, ast.ClassDef)
            for node in kind.body if isinstance(node, ast.FunctionDef)]


def methods_of(trees):
    return {node.name for node in all_methods(trees)}


def values_of(trees):
    """The names of the values that objects are given."""
    return {node.attr for tree in trees for node in ast.walk(tree)
            if isinstance(node, ast.Attribute) and isinstance(node.ctx, ast.Store)}


class Language(unittest.TestCase):
    def setUp(self):
        self.texts = {path: path.read_text("ascii") for path in package_files()}
        self.trees = {path: ast.parse(text) for path, text in self.texts.items()}

    def each_node(self):
        return [(f"{path.name}:{getattr(node, 'lineno', 0)}", node)
                for path, tree in self.trees.items() for node in ast.walk(tree)]

    def test_files(self):
        for path in self.texts:
            self.assertRegex(path.name, r"^[a-z_][a-z0-9_]*\.py$")
            self.assertNotRegex(path.name, r"^(test.*|site|conftest|sitecustomize|usercustomize)\.py$")
            self.assertFalse(path.stem in vars(builtins) or re.search(WORDS, path.stem), path.name)
            self.assertTrue((path.parent / "__init__.py").is_file())

    def test_signs_sizes_and_words(self):
        for path, text in self.texts.items():
            self.assertRegex(text, r"\A[ -~\n]*\Z")
            self.assertIsNone(re.search(WORDS, text), path.name)
            self.assertLessEqual(len(text.split("\n")), 400, path.name)
            self.assertLessEqual(max(map(len, text.split("\n"))), 120, path.name)

    def test_functions(self):
        for where, node in self.each_node():
            if isinstance(node, (ast.FunctionDef, ast.Lambda)):
                told = node.args
                self.assertFalse(told.vararg or told.kwarg or told.kwonlyargs or told.posonlyargs, where)
            if isinstance(node, ast.FunctionDef):
                self.assertEqual(node.decorator_list, [], where)
                self.assertLessEqual(node.end_lineno - node.lineno + 1, 40, where)

    def test_classes(self):
        for path, tree in self.trees.items():
            for node in ast.walk(tree):
                if isinstance(node, ast.ClassDef):
                    self.assertIn(node, tree.body)
                    self.assertTrue(len(node.bases) <= 1 and not node.keywords and not node.decorator_list)
                    for part in node.body:
                        self.assertIsInstance(part, (ast.FunctionDef, ast.Pass), f"{path.name}:{part.lineno}")

    def test_statements_and_expressions(self):
        for where, node in self.each_node():
            self.assertIn(type(node).__name__, NODES, where)
            if isinstance(node, (ast.For, ast.While)):
                self.assertEqual(node.orelse, [], where)
            if isinstance(node, ast.Try):
                self.assertEqual(node.finalbody, [], where)
            if isinstance(node, ast.Assign):
                self.assertEqual(len(node.targets), 1, where)
                self.assertIsInstance(node.targets[0], (ast.Name, ast.Attribute, ast.Subscript), where)
            if isinstance(node, ast.ListComp):
                self.assertTrue(len(node.generators) == 1 and len(node.generators[0].ifs) <= 1, where)
            if isinstance(node, ast.Constant):
                self.assertIn(type(node.value), (int, str, bool, type(None)), where)
                self.assertNotIn("%", str(node.value), where)
            if isinstance(node, ast.Compare) and isinstance(node.ops[0], (ast.Is, ast.IsNot)):
                self.assertIsInstance(node.comparators[0], ast.Constant, where)

    def test_names(self):
        for path, tree in self.trees.items():
            bound = bound_names(tree)
            for name in bound:
                self.assertTrue(name in TWO_UNDERSCORES or re.fullmatch(r"[A-Za-z][A-Za-z0-9_]*", name), name)
                self.assertFalse(name in vars(builtins) and not self.is_method(tree, name), f"{path.name}: {name}")
            drawn = [told.name for node in tree.body if isinstance(node, ast.ImportFrom) for told in node.names]
            for node in ast.walk(tree):
                if isinstance(node, ast.Name) and node.id not in bound and node.id not in drawn:
                    self.assertIn(node.id, OWN_OF_PYTHON, f"{path.name}:{node.lineno}")

    def test_names_that_are_not_used(self):
        for where, node in self.each_node():
            if isinstance(node, ast.Name):
                self.assertNotIn(node.id, NOT_AS_NAMES, where)
            if isinstance(node, ast.Attribute):
                self.assertNotIn(node.attr, ("format", "format_map", "mro", "register", "elements", "open"), where)

    def test_no_local_is_called_like_an_import_or_a_class(self):
        for path, tree in self.trees.items():
            drawn = [told.name for node in tree.body if isinstance(node, ast.ImportFrom) for told in node.names]
            classes = [node.name for node in tree.body if isinstance(node, ast.ClassDef)]
            methods = [node.name for node in all_methods([tree])]
            for name in drawn + classes:
                self.assertEqual(bound_names(tree).count(name), (classes + methods).count(name),
                                 f"{path.name}: {name}")

    def test_each_name_of_a_files_top_is_bound_once(self):
        for path, tree in self.trees.items():
            top = [node.name for node in tree.body if isinstance(node, (ast.FunctionDef, ast.ClassDef))]
            top += [node.targets[0].id for node in tree.body if isinstance(node, ast.Assign)]
            self.assertEqual(len(top), len(set(top)), path.name)

    def test_what_stands_by_itself_is_a_call(self):
        for path, tree in self.trees.items():
            for node in ast.walk(tree):
                if isinstance(node, ast.Expr) and node is not tree.body[0]:
                    self.assertIsInstance(node.value, ast.Call, f"{path.name}:{node.lineno}")

    def test_sets_are_asked_on_the_spot(self):
        for path, tree in self.trees.items():
            for holder, node in with_what_holds_it(tree):
                if called(node) in ("set", "frozenset"):
                    well = isinstance(holder, (ast.Compare, ast.BinOp)) or called(holder) in ("sorted", "len")
                    self.assertTrue(well, f"{path.name}:{node.lineno}")

    def test_walked_at_once(self):
        for path, tree in self.trees.items():
            for holder, node in with_what_holds_it(tree):
                if called(node) in WALKED:
                    well = isinstance(holder, (ast.For, ast.comprehension)) or called(holder) in WALKERS
                    self.assertTrue(well, f"{path.name}:{node.lineno}")

    def test_exponents_are_written(self):
        for where, node in self.each_node():
            if isinstance(node, ast.BinOp) and isinstance(node.op, ast.Pow):
                self.assertTrue(isinstance(node.right, ast.Constant) and 0 <= node.right.value <= 64, where)

    def is_method(self, tree, name):
        return name in methods_of([tree])

    def test_attributes_that_are_called(self):
        own = methods_of(self.trees.values())
        for where, node in self.each_node():
            if isinstance(node, ast.Call) and isinstance(node.func, ast.Attribute):
                self.assertIn(node.func.attr, set(METHODS) | own | set(TWO_UNDERSCORES), where)

    def test_methods_and_values(self):
        own, values = methods_of(self.trees.values()), values_of(self.trees.values())
        self.assertEqual(own & values, set())
        for path, tree in self.trees.items():
            for kind in ast.walk(tree):
                if isinstance(kind, ast.ClassDef):
                    names = [node.name for node in kind.body if isinstance(node, ast.FunctionDef)]
                    self.assertEqual(len(names), len(set(names)), f"{path.name}:{kind.lineno}")
        of_python = {name for kind in (str, int, list, tuple, dict, set, frozenset, bytes) for name in dir(kind)}
        self.assertEqual(own & of_python - set(METHODS) - set(TWO_UNDERSCORES) - {"add", "discard"}, set())
        self.assertEqual(values & of_python - set(FREE_VALUES), set())
        self.assertEqual(values & {"args", "format"}, set())

    def test_a_list_or_dict_of_a_files_top_is_only_read(self):
        for path, tree in self.trees.items():
            kept = [node.targets[0].id for node in tree.body if isinstance(node, ast.Assign)
                    and isinstance(node.value, (ast.List, ast.Dict))]
            for holder, node in with_what_holds_it(tree):
                if isinstance(node, ast.Name) and node.id in kept and isinstance(node.ctx, ast.Load):
                    well = isinstance(holder, (ast.Compare, ast.For, ast.comprehension))
                    well = well or isinstance(holder, ast.Subscript) and isinstance(holder.ctx, ast.Load)
                    well = well or called(holder) in ("len", "list", "dict", "sorted")
                    self.assertTrue(well, f"{path.name}:{node.lineno}")

    def test_imports(self):
        draws = {}
        for path, tree in self.trees.items():
            draws[path.stem] = []
            for node in ast.walk(tree):
                self.assertNotIsInstance(node, ast.Import, path.name)
                if isinstance(node, ast.ImportFrom):
                    self.assertIn(node, tree.body)
                    self.assertTrue(node.level == 0 and node.module.startswith("modulewood."), path.name)
                    source = node.module.split(".")[1]
                    draws[path.stem].append(source)
                    self.defines_each(source, node)
        self.assertEqual(draws["__init__"], [])
        self.no_circle(draws)

    def defines_each(self, source, node):
        defined = bound_names(self.trees[PACKAGE / f"{source}.py"])
        for told in node.names:
            self.assertIsNone(told.asname)
            self.assertIn(told.name, defined)

    def no_circle(self, draws):
        left = dict(draws)
        while left:
            free = [name for name in left if not any(source in left for source in left[name])]
            self.assertTrue(free, f"files that draw from one another: {sorted(left)}")
            for name in free:
                del left[name]


if __name__ == "__main__":
    unittest.main()
