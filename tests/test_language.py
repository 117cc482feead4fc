"""The package's own files keep to the part of the language that the project is written in."""

import ast
import builtins
import pathlib
import re
import unittest

PACKAGE = pathlib.Path(__file__).resolve().parent.parent / "cueshows"

OWN_NAMES = set("""len range enumerate zip min max sum abs sorted reversed int str bool list tuple dict set frozenset
isinstance ord repr any all divmod Exception ValueError TypeError KeyError IndexError LookupError ZeroDivisionError
ArithmeticError OverflowError RuntimeError NotImplementedError AttributeError StopIteration""".split())

OWN_METHODS = set("""append clear copy count endswith extend find get index insert isalnum isalpha isdigit islower
isspace isupper items join keys ljust lower lstrip partition pop remove replace reverse rfind rjust rpartition rsplit
rstrip setdefault split splitlines startswith strip update upper values zfill bit_length""".split())

NO_WORDS = set("""type typing typing_extensions enum Enum IntEnum StrEnum Flag IntFlag Generic Protocol ABC ABCMeta
namedtuple NamedTuple TypedDict TYPE_CHECKING abstractmethod""".split())

WALKED = ("zip", "enumerate", "reversed", "range")
WALKERS = ("list", "tuple", "dict", "sorted", "sum", "any", "all", "enumerate", "zip", "min", "max")

NODES = (
    ast.Module, ast.ImportFrom, ast.alias, ast.FunctionDef, ast.arguments, ast.arg, ast.ClassDef, ast.Return,
    ast.Assign, ast.AugAssign, ast.For, ast.While, ast.If, ast.Raise, ast.Try, ast.ExceptHandler, ast.Expr, ast.Pass,
    ast.Break, ast.Continue, ast.BoolOp, ast.BinOp, ast.UnaryOp, ast.IfExp, ast.Dict, ast.List, ast.Tuple,
    ast.ListComp, ast.comprehension, ast.Compare, ast.Call, ast.keyword, ast.Constant, ast.Attribute, ast.Subscript,
    ast.Slice, ast.Name, ast.Lambda, ast.expr_context, ast.boolop, ast.operator, ast.unaryop, ast.cmpop,
)


def own_files():
    """Each file's name, text and tree."""
    texts = [(path.name, path.read_text(encoding="utf-8")) for path in sorted(PACKAGE.glob("*.py"))]
    return [(name, text, ast.parse(text)) for name, text in texts]


class Language(unittest.TestCase):

    def test_the_folder_holds_python_files_alone(self):
        names = [path.name for path in PACKAGE.iterdir() if path.name != "__pycache__"]
        self.assertIn("__init__.py", names)
        for name in names:
            self.assertRegex(name, r"^(__init__|[a-z][a-z0-9_]*)\.py$")
            self.assertNotIn(name[:-3], dir(builtins))

    def test_signs_and_sizes(self):
        for name_of_file, text, tree in own_files():
            with self.subTest(file=name_of_file):
                self.assertRegex(text, r"\A[ -~\n]*\Z")
                rows = text.splitlines()
                self.assertLessEqual(len(rows), 400)
                self.assertLessEqual(max(len(one) for one in rows), 120)
                for node in ast.walk(tree):
                    if isinstance(node, ast.FunctionDef):
                        self.assertLessEqual(node.end_lineno - node.lineno + 1, 40, node.name)

    def test_words(self):
        for name_of_file, text, tree in own_files():
            with self.subTest(file=name_of_file):
                self.assertEqual(set(re.findall(r"\w+", text)) & NO_WORDS, set())
                self.assertNotRegex(text, "dataclass|overload|contextmanager")

    def test_forms(self):
        for name_of_file, text, tree in own_files():
            with self.subTest(file=name_of_file):
                for node in ast.walk(tree):
                    self.assertIsInstance(node, NODES)
                    self.assertNotIsInstance(node, (ast.Div, ast.MatMult))
                    if isinstance(node, ast.Assign):
                        self.assertEqual(len(node.targets), 1)
                    if isinstance(node, ast.ListComp):
                        self.assertEqual(len(node.generators), 1)
                        self.assertLessEqual(len(node.generators[0].ifs), 1)
                    if isinstance(node, (ast.For, ast.While)):
                        self.assertEqual(node.orelse, [])
                    if isinstance(node, ast.FunctionDef):
                        self.assertEqual(node.decorator_list, [])
                        self.assertIsNone(node.args.vararg or node.args.kwarg)
                    if isinstance(node, ast.Constant):
                        self.assertIn(type(node.value), (int, str, bool, type(None)))
                    if isinstance(node, ast.Compare):
                        for sign, right in zip(node.ops, node.comparators):
                            if isinstance(sign, (ast.Is, ast.IsNot)):
                                self.assertIsInstance(right, ast.Constant)

    def test_names(self):
        for name_of_file, text, tree in own_files():
            with self.subTest(file=name_of_file):
                defined = {node.name for node in tree.body if isinstance(node, (ast.FunctionDef, ast.ClassDef))}
                for node in tree.body:
                    if isinstance(node, ast.ImportFrom):
                        defined |= {one.name for one in node.names}
                for node in ast.walk(tree):
                    if isinstance(node, ast.Name) and isinstance(node.ctx, ast.Load) and hasattr(builtins, node.id):
                        self.assertIn(node.id, OWN_NAMES)
                    bound = [node.id] if isinstance(node, ast.Name) and isinstance(node.ctx, ast.Store) else []
                    bound += [node.arg] if isinstance(node, ast.arg) else []
                    for name in bound:
                        self.assertFalse(hasattr(builtins, name), name)
                        self.assertNotIn(name, defined)
                        self.assertFalse(name.startswith("_"), name)

    def test_imports(self):
        for name_of_file, text, tree in own_files():
            with self.subTest(file=name_of_file):
                for node in ast.walk(tree):
                    if isinstance(node, ast.ImportFrom):
                        self.assertIn(node, tree.body)
                        self.assertEqual(node.level, 0)
                        source = PACKAGE / (node.module.split(".")[-1] + ".py")
                        self.assertEqual(node.module, "cueshows." + source.stem)
                        body = ast.parse(source.read_text(encoding="utf-8")).body
                        defined = {one.name for one in body if isinstance(one, (ast.FunctionDef, ast.ClassDef))}
                        defined |= {one.targets[0].id for one in body if isinstance(one, ast.Assign)}
                        for name in node.names:
                            self.assertIn(name.name, defined)
                            self.assertIsNone(name.asname)

    def test_methods(self):
        own = set()
        for name_of_file, text, tree in own_files():
            with self.subTest(file=name_of_file):
                for node in ast.walk(tree):
                    if isinstance(node, ast.ClassDef):
                        own |= {one.name for one in node.body if isinstance(one, ast.FunctionDef)}
        for name_of_file, text, tree in own_files():
            with self.subTest(file=name_of_file):
                for node in ast.walk(tree):
                    if isinstance(node, ast.Call) and isinstance(node.func, ast.Attribute):
                        self.assertIn(node.func.attr, own | OWN_METHODS)

    def test_methods_and_values_of_objects(self):
        methods = set()
        kept = set()
        for name_of_file, text, tree in own_files():
            for node in ast.walk(tree):
                if isinstance(node, ast.ClassDef):
                    methods |= {one.name for one in node.body if isinstance(one, ast.FunctionDef)}
                if isinstance(node, ast.Attribute) and isinstance(node.ctx, ast.Store):
                    kept.add(node.attr)
        self.assertEqual(methods & kept, set())
        for own in ("", 0, [], {}, set(), b"", ()):
            self.assertEqual((methods | kept) & set(dir(own)) - {"__init__"}, set())

    def test_what_is_walked_is_walked_at_once(self):
        for name_of_file, text, tree in own_files():
            with self.subTest(file=name_of_file):
                on_the_spot = []
                for node in ast.walk(tree):
                    if isinstance(node, (ast.For, ast.comprehension)):
                        on_the_spot.append(node.iter)
                    if isinstance(node, ast.Call) and isinstance(node.func, ast.Name) and node.func.id in WALKERS:
                        on_the_spot.extend(node.args[:1])
                for node in ast.walk(tree):
                    if isinstance(node, ast.Call) and isinstance(node.func, ast.Name) and node.func.id in WALKED:
                        self.assertIn(node, on_the_spot)


if __name__ == "__main__":
    unittest.main()
