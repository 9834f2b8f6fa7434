"""The package keeps to the small part of Python it is written in: what of that can be seen in its files."""

import ast
import builtins
import pathlib
import unittest

PACKAGE = pathlib.Path(__file__).resolve().parent.parent / "evenmeet"

OWN_NAMES = """
    len range enumerate zip min max sum abs sorted reversed int str bool list tuple dict set frozenset isinstance ord
    repr any all divmod Exception ValueError TypeError KeyError IndexError LookupError ZeroDivisionError
    ArithmeticError OverflowError RuntimeError NotImplementedError AttributeError StopIteration
""".split()

STATEMENTS = (
    ast.Module, ast.FunctionDef, ast.ClassDef, ast.ImportFrom, ast.Assign, ast.AugAssign, ast.If, ast.While, ast.For,
    ast.Return, ast.Break, ast.Continue, ast.Pass, ast.Raise, ast.Try, ast.Expr,
)

OUT = (
    ast.SetComp, ast.DictComp, ast.GeneratorExp, ast.NamedExpr, ast.Starred, ast.Yield, ast.YieldFrom, ast.Await,
    ast.Div, ast.MatMult, ast.Global, ast.Nonlocal,
)

WORDS_OUT = """
    type typing typing_extensions enum Enum IntEnum StrEnum Flag IntFlag Generic Protocol ABC ABCMeta namedtuple
    NamedTuple TypedDict TYPE_CHECKING abstractmethod
""".split()


METHODS = """
    append clear copy count endswith extend find get index insert isalnum isalpha isdigit islower isspace isupper items
    join keys ljust lower lstrip partition pop remove replace reverse rfind rjust rpartition rsplit rstrip setdefault
    split splitlines startswith strip update upper values zfill bit_length
""".split()

WALKED = "zip enumerate reversed range items keys values".split()

WALKERS = "list tuple dict sorted sum any all enumerate zip min max".split()


def package_files():
    return sorted(path for path in PACKAGE.iterdir() if path.name != "__pycache__")


def read(path):
    text = path.read_text(encoding="utf-8")
    return text, ast.parse(text)


def methods_of(tree):
    return [part for node in tree.body if isinstance(node, ast.ClassDef) for part in node.body]


def bound_names(tree):
    methods = methods_of(tree)
    names = []
    for node in ast.walk(tree):
        if isinstance(node, (ast.FunctionDef, ast.ClassDef)) and node not in methods:
            names.append(node.name)
        elif isinstance(node, ast.arg):
            names.append(node.arg)
        elif isinstance(node, ast.alias):
            names.append(node.asname or node.name)
        elif isinstance(node, ast.ExceptHandler) and node.name:
            names.append(node.name)
        elif isinstance(node, ast.Name) and isinstance(node.ctx, ast.Store):
            names.append(node.id)
    return names


class Language(unittest.TestCase):
    def test_files(self):
        for path in package_files():
            self.assertRegex(path.name, r"^[a-z0-9_]+\.py$")

    def test_size_and_signs(self):
        for path in package_files():
            text, tree = read(path)
            rows = text.splitlines()
            self.assertLessEqual(len(rows), 400)
            self.assertLessEqual(max(len(row) for row in rows), 120)
            self.assertFalse([sign for sign in text if sign != "\n" and not " " <= sign <= "~"])
            for node in ast.walk(tree):
                if isinstance(node, ast.FunctionDef):
                    self.assertLessEqual(node.end_lineno - node.lineno + 1, 40, node.name)

    def test_statements_and_expressions(self):
        for path in package_files():
            text, tree = read(path)
            for node in ast.walk(tree):
                if isinstance(node, (ast.stmt, ast.Module)):
                    self.assertIsInstance(node, STATEMENTS, path.name)
                self.assertNotIsInstance(node, OUT, path.name)
                if isinstance(node, ast.Assign):
                    self.assertEqual(len(node.targets), 1, (path.name, node.lineno))
                if isinstance(node, (ast.For, ast.While)):
                    self.assertEqual(node.orelse, [], (path.name, node.lineno))
                if isinstance(node, ast.Constant):
                    self.assertIsInstance(node.value, (int, str, bool, type(None)), path.name)
                if isinstance(node, ast.BinOp) and isinstance(node.op, ast.Pow):
                    self.assertIsInstance(node.right, ast.Constant, (path.name, node.lineno))

    def test_imports_draw_from_the_package_alone(self):
        for path in package_files():
            text, tree = read(path)
            for node in ast.walk(tree):
                if isinstance(node, ast.ImportFrom):
                    self.assertEqual(node.level, 0)
                    self.assertRegex(node.module, r"^evenmeet\.")
                    self.assertNotIn("*", [alias.name for alias in node.names])

    def test_imports_come_from_the_file_that_defines_the_name_and_never_in_a_ring(self):
        defined = {}
        drawn = {}
        for path in package_files():
            text, tree = read(path)
            rows = [node for node in tree.body if isinstance(node, ast.ImportFrom)]
            drawn[path.stem] = [node.module.partition(".")[2] for node in rows]
            names = [node.name for node in tree.body if isinstance(node, (ast.FunctionDef, ast.ClassDef))]
            names += [node.targets[0].id for node in tree.body if isinstance(node, ast.Assign)]
            self.assertEqual(len(names), len(set(names)), path.name)
            defined[path.stem] = names
        for path in package_files():
            for node in read(path)[1].body:
                if isinstance(node, ast.ImportFrom):
                    for alias in node.names:
                        self.assertIn(alias.name, defined[node.module.partition(".")[2]], path.name)
        left = dict(drawn)
        while left:
            free = [name for name in left if not any(other in left for other in left[name])]
            self.assertTrue(free, left)
            for name in free:
                del left[name]

    def test_methods_and_comparisons(self):
        own = [part.name for path in package_files() for part in methods_of(read(path)[1]) if hasattr(part, "name")]
        for path in package_files():
            text, tree = read(path)
            for node in ast.walk(tree):
                if isinstance(node, ast.Call) and isinstance(node.func, ast.Attribute):
                    self.assertIn(node.func.attr, METHODS + own, (path.name, node.lineno))
                if isinstance(node, ast.Compare) and any(isinstance(op, (ast.Is, ast.IsNot)) for op in node.ops):
                    self.assertIsInstance(node.comparators[0], ast.Constant, (path.name, node.lineno))
                if isinstance(node, ast.comprehension):
                    self.assertLessEqual(len(node.ifs), 1, path.name)
                if isinstance(node, ast.ListComp):
                    self.assertEqual(len(node.generators), 1, (path.name, node.lineno))

    def test_no_name_is_a_method_in_one_class_and_a_value_in_another(self):
        methods = []
        values = []
        for path in package_files():
            text, tree = read(path)
            methods += [part.name for part in methods_of(tree) if isinstance(part, ast.FunctionDef)]
            values += [node.attr for node in ast.walk(tree)
                       if isinstance(node, ast.Attribute) and isinstance(node.ctx, ast.Store)]
        self.assertFalse(set(methods) & set(values))
        for name in set(methods + values) - {"__init__"}:
            for kind in (str, int, list, tuple, dict, set, frozenset, bytes):
                self.assertFalse(hasattr(kind, name), name)

    def test_a_set_is_only_asked_compared_sorted_or_counted(self):
        for path in package_files():
            text, tree = read(path)
            above = {child: node for node in ast.walk(tree) for child in ast.iter_child_nodes(node)}
            for node in ast.walk(tree):
                self.assertNotIsInstance(node, ast.Set, path.name)
                if isinstance(node, ast.Call) and isinstance(node.func, ast.Name) and node.func.id == "set":
                    around = above[node]
                    while isinstance(around, ast.BinOp):
                        around = above[around]
                    asked = isinstance(around, ast.Call) and getattr(around.func, "id", "") in ("len", "sorted")
                    self.assertTrue(asked or isinstance(around, ast.Compare), (path.name, node.lineno))

    def test_what_is_walked_is_walked_at_once(self):
        for path in package_files():
            text, tree = read(path)
            above = {child: node for node in ast.walk(tree) for child in ast.iter_child_nodes(node)}
            for node in ast.walk(tree):
                called = getattr(node.func, "id", getattr(node.func, "attr", "")) if isinstance(node, ast.Call) else ""
                if called in WALKED:
                    around = above[node]
                    walked = isinstance(around, (ast.For, ast.comprehension)) and around.iter == node
                    within = isinstance(around, ast.Call) and getattr(around.func, "id", "") in WALKERS
                    self.assertTrue(walked or within, (path.name, node.lineno))

    def test_no_parameter_or_local_is_called_like_a_class_or_an_import(self):
        for path in package_files():
            text, tree = read(path)
            top = [alias.name for node in tree.body if isinstance(node, ast.ImportFrom) for alias in node.names]
            top += [node.name for node in tree.body if isinstance(node, ast.ClassDef)]
            for node in ast.walk(tree):
                if isinstance(node, ast.arg):
                    self.assertNotIn(node.arg, top, path.name)
                elif isinstance(node, ast.Name) and isinstance(node.ctx, ast.Store):
                    self.assertNotIn(node.id, top, path.name)

    def test_names(self):
        for path in package_files():
            text, tree = read(path)
            bound = bound_names(tree)
            for name in bound:
                self.assertFalse(name.startswith("_"), (path.name, name))
                self.assertNotIn(name, dir(builtins), path.name)
            for node in ast.walk(tree):
                if isinstance(node, ast.Name) and isinstance(node.ctx, ast.Load):
                    self.assertTrue(node.id in bound or node.id in OWN_NAMES, (path.name, node.id))

    def test_words_that_stand_nowhere(self):
        for path in package_files():
            text, tree = read(path)
            words = "".join(sign if sign.isalnum() or sign == "_" else " " for sign in text).split()
            for word in words:
                self.assertNotIn(word, WORDS_OUT)
                for part in ("dataclass", "overload", "contextmanager"):
                    self.assertNotIn(part, word)


if __name__ == "__main__":
    unittest.main()
