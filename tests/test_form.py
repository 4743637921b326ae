"""The rules of form that are easily seen: sizes, signs, words, imports, builtins."""

import ast
import builtins
import pathlib
import re
import unittest
import warnings

FOLDER = pathlib.Path(__file__).resolve().parent.parent / "standby"
FILES = sorted(FOLDER.glob("*.py"))

BUILTINS = set("""
    len range enumerate zip min max sum abs sorted reversed int str bool bytes list tuple dict set frozenset isinstance
    ord repr any all divmod iter next super property staticmethod classmethod
    Exception ValueError TypeError KeyError IndexError LookupError ZeroDivisionError ArithmeticError OverflowError
    RuntimeError NotImplementedError AttributeError StopIteration NotImplemented
""".split())

BARRED = set("""
    type typing typing_extensions enum Enum IntEnum StrEnum Flag IntFlag Generic Protocol ABC ABCMeta namedtuple
    NamedTuple TypedDict TYPE_CHECKING abstractmethod
""".split())

BARRED_WITHIN = ("dataclass", "overload", "contextmanager")

STATEMENTS_OF_A_MODULE = (ast.ImportFrom, ast.FunctionDef, ast.ClassDef, ast.Assign)


INTERFACE = {
    "errors.py": "Unlike Alike BadText BadRow BadDeed NoName NoPlace NoNumber NoDeed Never Known Last",
    "rows.py": "is_row place_of is_ahead turned falls",
    "calls.py": "is_call people whom stay all_to going call_of groups goers",
    "calling.py": "called",
    "words.py": "is_word called_all rows_behind renamed",
    "walkers.py": "walks pair_of shows_ahead",
    "tables.py": "Table",
    "parting.py": "alike parting shows_parting",
    "far.py": "far comes_round changes rests",
    "had.py": "web wants had can_be shows_never ends_many",
    "single.py": "rounds depth again_many rests_all passes",
    "between.py": "calls_many call_at number_of words_many fewest_goers call_of_fewest",
    "few.py": "named fewest_calls word_of_few shows_few",
    "lots.py": "is_lot least_lot part_of row_of",
    "square.py": "Square",
    "texts.py": "row_text row_in call_text call_in word_text word_in",
    "desk.py": "answers",
}


def parsed():
    for path in FILES:
        yield path.name, ast.parse(path.read_text(encoding="ascii"))


def nodes(*kinds):
    for name, tree in parsed():
        for node in ast.walk(tree):
            if isinstance(node, kinds):
                yield name, node


class Form(unittest.TestCase):
    def test_folder(self):
        self.assertTrue((FOLDER / "__init__.py").is_file())
        for path in FOLDER.iterdir():
            if path.name != "__pycache__":
                self.assertRegex(path.name, r"^[a-z0-9_]+\.py$")

    def test_signs_and_sizes(self):
        for path in FILES:
            text = path.read_text(encoding="ascii")
            self.assertIsNone(re.search(r"[^ -~\n]", text), path.name)
            rows = text.split("\n")
            self.assertLessEqual(len(rows), 399, path.name)
            self.assertLessEqual(max(len(row) for row in rows), 120, path.name)
        for name, node in nodes(ast.FunctionDef):
            self.assertLessEqual(node.end_lineno - node.lineno + 1, 40, (name, node.name))

    def test_words(self):
        for path in FILES:
            text = path.read_text(encoding="ascii")
            self.assertEqual(BARRED & set(re.findall(r"\w+", text)), set(), path.name)
            for word in BARRED_WITHIN:
                self.assertNotIn(word, text, path.name)

    def test_no_warnings(self):
        with warnings.catch_warnings():
            warnings.simplefilter("error")
            for path in FILES:
                compile(path.read_text(encoding="ascii"), path.name, "exec")

    def test_module_level(self):
        for name, tree in parsed():
            bound = []
            for node in tree.body:
                if isinstance(node, ast.Expr):
                    self.assertIsInstance(node.value, ast.Constant, name)
                    continue
                self.assertIsInstance(node, STATEMENTS_OF_A_MODULE, (name, node.lineno))
                if isinstance(node, ast.ImportFrom):
                    bound += [alias.asname or alias.name for alias in node.names]
                elif isinstance(node, ast.Assign):
                    bound += [target.id for target in node.targets]
                else:
                    bound.append(node.name)
            self.assertEqual(len(bound), len(set(bound)), name)

    def test_imports(self):
        defined = {}
        imported = {}
        for name, tree in parsed():
            module = "standby." + name[:-3]
            defined[module] = {node.name for node in tree.body if isinstance(node, (ast.FunctionDef, ast.ClassDef))}
            for node in tree.body:
                if isinstance(node, ast.Assign):
                    defined[module] |= {target.id for target in node.targets}
            imported[module] = [node for node in ast.walk(tree) if isinstance(node, ast.ImportFrom)]
        for module, found in imported.items():
            for node in found:
                self.assertEqual(node.level, 0, module)
                self.assertLessEqual({alias.name for alias in node.names}, defined[node.module], module)
        self.assertEqual(list(nodes(ast.Import)), [])
        self.no_ring({module: [node.module for node in found] for module, found in imported.items()})

    def no_ring(self, needs):
        left = dict(needs)
        while left:
            free = [module for module, wanted in left.items() if not set(wanted) & set(left)]
            self.assertTrue(free, sorted(left))
            for module in free:
                del left[module]

    def test_builtins(self):
        for name, node in nodes(ast.Name):
            if hasattr(builtins, node.id):
                self.assertIn(node.id, BUILTINS, (name, node.lineno))

    def test_names(self):
        for name, node in nodes(ast.FunctionDef, ast.ClassDef, ast.arg, ast.Name, ast.Attribute):
            word = getattr(node, "name", None) or getattr(node, "arg", None) or getattr(node, "id", None) or node.attr
            if not re.fullmatch(r"__[a-z]+__", word):
                self.assertRegex(word, r"^[A-Za-z][A-Za-z0-9_]*$", name)
        for name, node in nodes(ast.arg):
            self.assertFalse(hasattr(builtins, node.arg), (name, node.arg))

    def test_no_parameter_or_local_has_the_name_of_an_import_or_a_class(self):
        for name, tree in parsed():
            taken = {node.name for node in tree.body if isinstance(node, ast.ClassDef)}
            for node in tree.body:
                if isinstance(node, ast.ImportFrom):
                    taken |= {alias.asname or alias.name for alias in node.names}
            for node in ast.walk(tree):
                if isinstance(node, ast.arg):
                    self.assertNotIn(node.arg, taken, name)
                elif isinstance(node, ast.Name) and isinstance(node.ctx, ast.Store):
                    self.assertNotIn(node.id, taken, (name, node.lineno))

    def test_imports_are_used(self):
        for name, tree in parsed():
            read = {node.id for node in ast.walk(tree) if isinstance(node, ast.Name)}
            for node in tree.body:
                if isinstance(node, ast.ImportFrom):
                    self.assertLessEqual({alias.name for alias in node.names}, read, name)

    def test_no_name_is_a_method_and_an_attribute(self):
        methods = {inner.name for _, node in nodes(ast.ClassDef) for inner in node.body
                   if isinstance(inner, ast.FunctionDef)}
        attributes = {node.attr for _, node in nodes(ast.Attribute) if isinstance(node.ctx, ast.Store)}
        self.assertEqual(methods & attributes, set())

    def test_no_generator_expressions_and_no_stars_over_calls(self):
        self.assertEqual(list(nodes(ast.GeneratorExp)), [])
        for name, node in nodes(ast.Starred):
            self.assertIsInstance(node.value, ast.Name, (name, node.lineno))

    def test_is_stands_beside_none_true_and_false_alone(self):
        for name, node in nodes(ast.Compare):
            if any(isinstance(sign, (ast.Is, ast.IsNot)) for sign in node.ops):
                self.assertIsInstance(node.comparators[0], ast.Constant, (name, node.lineno))
                self.assertIn(node.comparators[0].value, (None, True, False), (name, node.lineno))

    def test_iterated_at_once(self):
        """What zip, reversed, items and the like give is not stored or returned."""
        lazy = {"zip", "enumerate", "reversed", "range", "items", "keys", "values"}
        for name, node in nodes(ast.Assign, ast.Return):
            if isinstance(node.value, ast.Call):
                word = getattr(node.value.func, "id", None) or getattr(node.value.func, "attr", None)
                self.assertNotIn(word, lazy, (name, node.lineno))

    def test_values(self):
        for name, node in nodes(ast.Constant):
            self.assertNotIsInstance(node.value, (float, complex), (name, node.lineno))
            if isinstance(node.value, str):
                self.assertNotIn("%", node.value, (name, node.lineno))
        self.assertEqual([name for name, _ in nodes(ast.Div, ast.MatMult, ast.Global, ast.AsyncFunctionDef)], [])
        for name, node in nodes(ast.BinOp):
            if isinstance(node.op, ast.Pow):
                self.assertIsInstance(node.right, ast.Constant, (name, node.lineno))

    def test_only_own_errors_are_caught(self):
        own = {node.name for name, node in nodes(ast.ClassDef) if name == "errors.py"}
        for name, node in nodes(ast.ExceptHandler):
            kinds = node.type.elts if isinstance(node.type, ast.Tuple) else [node.type]
            self.assertLessEqual({kind.id for kind in kinds}, own, (name, node.lineno))

    def test_raised_on_the_spot(self):
        for name, node in nodes(ast.Raise):
            if node.exc is not None:
                self.assertIsInstance(node.exc, ast.Call, (name, node.lineno))
                self.assertIsInstance(node.exc.func, ast.Name, (name, node.lineno))

    def test_each_function_stands_in_its_file(self):
        there = {name: {node.name for node in tree.body if isinstance(node, (ast.FunctionDef, ast.ClassDef))}
                 for name, tree in parsed()}
        for name, wanted in INTERFACE.items():
            self.assertLessEqual(set(wanted.split()), there[name], name)


if __name__ == "__main__":
    unittest.main()
