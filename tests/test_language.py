"""Those rules of LANGUAGE.md that can be read off the package's files row by row."""

import ast
import builtins
import pathlib
import re
import unittest

FOLDER = pathlib.Path(__file__).resolve().parent.parent / "stairseek"

OWN_NAMES = set("""len range enumerate zip min max sum abs sorted reversed int str bool list tuple dict set frozenset
isinstance ord repr any all divmod Exception ValueError TypeError KeyError IndexError LookupError ZeroDivisionError
ArithmeticError OverflowError RuntimeError NotImplementedError AttributeError StopIteration""".split())

OWN_METHODS = set("""append clear copy count endswith extend find get index insert isalnum isalpha isdigit islower
isspace isupper items join keys ljust lower lstrip partition pop remove replace reverse rfind rjust rpartition rsplit
rstrip setdefault split splitlines startswith strip update upper values zfill bit_length""".split())

WORDS = re.compile(r"\b(type|typing|typing_extensions|enum|Enum|IntEnum|StrEnum|Flag|IntFlag|Generic|Protocol|ABC"
                   r"|ABCMeta|namedtuple|NamedTuple|TypedDict|TYPE_CHECKING|abstractmethod)\b"
                   r"|dataclass|overload|contextmanager")

NOWHERE = set("""register mro elements open input version_info with_traceback add_note format format_map""".split())

NOT_AS_NAMES = set("""attrgetter breakpoint builtins compile copyright credits delattr dir eval exec exit gc getattr
globals hasattr help id importlib license locals methodcaller os quit setattr super type vars sys chr""".split())

KEYWORDS = {"sorted": {"key", "reverse"}, "min": {"key", "default"}, "max": {"key", "default"}, "sum": {"start"},
            "enumerate": {"start"}, "zip": {"strict"}}

# Values of Python's own have these; an object's values may still be called by some of them.
TAKEN = {name for kind in (str, int, list, dict, set, bytes, tuple, BaseException) for name in dir(kind)}
FREE_AS_VALUES = set("count index title find get join lower upper split strip copy add".split())

STATEMENTS = (ast.FunctionDef, ast.ClassDef, ast.Return, ast.Assign, ast.AugAssign, ast.For, ast.While, ast.If,
              ast.Raise, ast.Try, ast.ImportFrom, ast.Expr, ast.Pass, ast.Break, ast.Continue)

BARRED = (ast.Set, ast.SetComp, ast.DictComp, ast.GeneratorExp, ast.NamedExpr, ast.Starred, ast.Await, ast.Yield,
          ast.YieldFrom, ast.Div, ast.MatMult)


def files():
    return sorted(FOLDER.glob("*.py"))


def tree_of(file):
    return ast.parse(file.read_text(encoding="utf-8"))


def each_node():
    for file in files():
        for node in ast.walk(tree_of(file)):
            yield (file.name, getattr(node, "lineno", 0)), node


class LanguageTest(unittest.TestCase):
    def test_nothing_but_plain_files_lies_in_the_package(self):
        for path in FOLDER.iterdir():
            if path.name != "__pycache__":
                self.assertRegex(path.name, r"^(__init__|[a-z][a-z0-9_]*)\.py$")
        self.assertIn("__init__.py", [file.name for file in files()])

    def test_signs_and_sizes(self):
        for file in files():
            text = file.read_bytes().decode("ascii")
            rows = text.split("\n")
            self.assertLessEqual(len(rows), 401, file.name)
            self.assertRegex(text, r"\A[ -~\n]*\Z", file.name)
            self.assertIsNone(WORDS.search(text), file.name)
            for row in rows:
                self.assertLessEqual(len(row), 120, (file.name, row))

    def test_statements_and_expressions(self):
        for where, node in each_node():
            if isinstance(node, ast.stmt):
                self.assertIsInstance(node, STATEMENTS, where)
            self.assertNotIsInstance(node, BARRED, where)
            if isinstance(node, ast.Constant):
                self.assertNotIsInstance(node.value, (float, bytes, complex), where)
            if isinstance(node, (ast.For, ast.While)):
                self.assertEqual(node.orelse, [], where)
            if isinstance(node, ast.ListComp):
                self.assertEqual(len(node.generators), 1, where)
                self.assertLessEqual(len(node.generators[0].ifs), 1, where)
            if isinstance(node, ast.Assign):
                self.assertEqual(len(node.targets), 1, where)

    def test_a_text_by_itself_stands_at_the_top_of_a_file_alone(self):
        for where, node in each_node():
            for inner in ast.iter_child_nodes(node):
                if isinstance(inner, ast.Expr) and not isinstance(inner.value, ast.Call):
                    self.assertIsInstance(node, ast.Module, where)
                    self.assertIs(node.body[0], inner, where)

    def test_functions(self):
        for where, node in each_node():
            if isinstance(node, ast.FunctionDef):
                self.assertLessEqual(node.end_lineno - node.lineno + 1, 40, where)
                self.assertEqual(node.decorator_list, [], where)
                self.assertEqual((node.args.vararg, node.args.kwarg, node.args.kwonlyargs), (None, None, []), where)

    def test_imports_are_the_packages_own_and_used(self):
        for file in files():
            tree = tree_of(file)
            used = {node.id for node in ast.walk(tree) if isinstance(node, ast.Name)}
            for node in ast.walk(tree):
                if isinstance(node, ast.ImportFrom):
                    self.assertEqual(node.level, 0)
                    self.assertIn(node, tree.body)
                    source = FOLDER / (node.module.replace("stairseek.", "", 1) + ".py")
                    defined = [top.name for top in tree_of(source).body if hasattr(top, "name")]
                    for name in node.names:
                        self.assertIn(name.name, defined)
                        self.assertIsNone(name.asname)
                        self.assertIn(name.name, used)

    def test_names(self):
        for file in files():
            tree = tree_of(file)
            known = set(OWN_NAMES)
            bound = set()
            methods = [inner for node in tree.body if isinstance(node, ast.ClassDef) for inner in node.body]
            for node in ast.walk(tree):
                if isinstance(node, (ast.FunctionDef, ast.ClassDef)):
                    # A method is no name of the file: a parameter may be called like one.
                    known.update([] if node in methods else [node.name])
                elif isinstance(node, ast.ImportFrom):
                    known.update(name.name for name in node.names)
                elif isinstance(node, ast.arg):
                    bound.add(node.arg)
                elif isinstance(node, ast.Name) and isinstance(node.ctx, ast.Store):
                    bound.add(node.id)
                elif isinstance(node, ast.ExceptHandler) and node.name is not None:
                    bound.add(node.name)
            self.assertEqual(bound & known, set(), file.name)
            self.assertEqual(bound & set(dir(builtins)), set(), file.name)
            read = {node.id for node in ast.walk(tree) if isinstance(node, ast.Name)}
            self.assertEqual(read - known - bound, set(), file.name)
            for name in bound:
                self.assertRegex(name, r"^[A-Za-z][A-Za-z0-9_]*$")

    def test_methods_that_are_called(self):
        own = set()
        for where, node in each_node():
            if isinstance(node, ast.ClassDef):
                own.update(inner.name for inner in node.body if isinstance(inner, ast.FunctionDef))
        for where, node in each_node():
            if isinstance(node, ast.Call) and isinstance(node.func, ast.Attribute):
                self.assertIn(node.func.attr, OWN_METHODS | own, where)

    def test_classes(self):
        for file in files():
            tree = tree_of(file)
            for node in ast.walk(tree):
                if isinstance(node, ast.ClassDef):
                    self.assertIn(node, tree.body, node.name)
                    self.assertEqual((node.decorator_list, node.keywords), ([], []), node.name)
                    self.assertLessEqual(len(node.bases), 1, node.name)
                    if not isinstance(node.body[0], ast.Pass):
                        names = [inner.name for inner in node.body if isinstance(inner, ast.FunctionDef)]
                        self.assertEqual(len(names), len(node.body), node.name)
                        self.assertEqual(len(names), len(set(names)), node.name)

    def test_methods_and_values_of_objects(self):
        methods = set()
        values = set()
        for where, node in each_node():
            if isinstance(node, ast.ClassDef):
                methods.update(inner.name for inner in node.body if isinstance(inner, ast.FunctionDef))
            if isinstance(node, ast.Attribute) and isinstance(node.ctx, ast.Store):
                self.assertIsInstance(node.value, ast.Name, where)
                values.add(node.attr)
        self.assertEqual(methods & values, set())
        self.assertEqual(values & (TAKEN - FREE_AS_VALUES), set())
        allowed = OWN_METHODS | {"__init__", "__eq__", "__repr__", "__str__", "__len__", "add", "discard"}
        self.assertEqual(methods & (TAKEN - allowed), set())

    def test_names_that_are_not_used(self):
        for where, node in each_node():
            for part in ("name", "id", "attr", "arg"):
                self.assertNotIn(getattr(node, part, None), NOWHERE, where)
            for part in ("id", "arg"):
                self.assertNotIn(getattr(node, part, None), NOT_AS_NAMES, where)

    def test_keywords(self):
        for where, node in each_node():
            if isinstance(node, ast.Call):
                allowed = KEYWORDS.get(getattr(node.func, "id", None), set())
                self.assertLessEqual({word.arg for word in node.keywords}, allowed, where)

    def test_texts_and_powers(self):
        for where, node in each_node():
            if isinstance(node, ast.Constant) and isinstance(node.value, str):
                self.assertRegex(node.value, r"\A[ -$&-~\n\t]*\Z", where)
            if isinstance(node, ast.FormattedValue):
                self.assertIsInstance(node.value, ast.Name, where)
                self.assertIsNone(node.format_spec, where)
            self.assertNotIsInstance(node, ast.Pow, where)

    def test_the_top_of_a_file_keeps_plain_values(self):
        for file in files():
            for node in tree_of(file).body:
                if isinstance(node, ast.Assign):
                    self.assertIsInstance(node.targets[0], ast.Name)
                    inner = list(ast.walk(node.value))[1:]
                    self.assertFalse([one for one in inner if isinstance(one, (ast.List, ast.Dict))], file.name)
                    kinds = (ast.Constant, ast.Tuple, ast.List, ast.Dict, ast.Load)
                    self.assertFalse([one for one in [node.value] + inner if not isinstance(one, kinds)], file.name)

    def test_errors_are_made_where_they_are_raised_and_of_the_packages_own(self):
        refusals = [node.name for node in tree_of(FOLDER / "errors.py").body if isinstance(node, ast.ClassDef)]
        for where, node in each_node():
            if isinstance(node, ast.Raise):
                self.assertIsInstance(node.exc, ast.Call, where)
                self.assertIn(node.exc.func.id, refusals, where)
            self.assertNotIsInstance(node, ast.Try, where)

    def test_no_two_files_draw_from_one_another(self):
        drawn = {file.stem: [node.module.rpartition(".")[2] for node in tree_of(file).body
                             if isinstance(node, ast.ImportFrom)] for file in files()}
        settled = set()
        while len(settled) < len(drawn):
            more = [name for name in drawn if name not in settled and settled.issuperset(drawn[name])]
            self.assertNotEqual(more, [], sorted(set(drawn) - settled))
            settled.update(more)

    def test_is_stands_beside_none_and_truths_alone(self):
        for where, node in each_node():
            if isinstance(node, ast.Compare) and isinstance(node.ops[0], (ast.Is, ast.IsNot)):
                sides = [node.left] + node.comparators
                plain = [side for side in sides if isinstance(side, ast.Constant)]
                self.assertTrue(any(side.value in (None, True, False) for side in plain), where)


if __name__ == "__main__":
    unittest.main()
