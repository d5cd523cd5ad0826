"""The package keeps to the rules of LANGUAGE.md, as far as they can be seen file by file."""

import ast
import builtins
import pathlib
import re
import unittest

PACKAGE = pathlib.Path(__file__).resolve().parent.parent / "agingqueue"
FILES = sorted(path for path in PACKAGE.rglob("*") if "__pycache__" not in path.parts)

NODES = (
    ast.Module, ast.ImportFrom, ast.alias, ast.FunctionDef, ast.arguments, ast.arg, ast.ClassDef, ast.Lambda,
    ast.Assign, ast.AugAssign, ast.If, ast.While, ast.For, ast.Return, ast.Break, ast.Continue, ast.Pass, ast.Raise,
    ast.Try, ast.ExceptHandler, ast.Expr, ast.Constant, ast.List, ast.Tuple, ast.Dict, ast.Name, ast.BinOp,
    ast.UnaryOp, ast.BoolOp, ast.Compare, ast.IfExp, ast.Call, ast.keyword, ast.Attribute, ast.Subscript, ast.Slice,
    ast.ListComp, ast.comprehension, ast.JoinedStr, ast.FormattedValue, ast.operator, ast.unaryop, ast.boolop,
    ast.cmpop, ast.expr_context,
)
BUILTINS = set("""len range enumerate zip min max sum abs sorted reversed int str bool list tuple dict set frozenset
    isinstance ord repr any all divmod Exception ValueError TypeError KeyError IndexError LookupError
    ZeroDivisionError ArithmeticError OverflowError RuntimeError NotImplementedError AttributeError
    StopIteration""".split())
METHODS = set("""append clear copy count endswith extend find get index insert isalnum isalpha isdigit islower isspace
    isupper items join keys ljust lower lstrip partition pop remove replace reverse rfind rjust rpartition rsplit
    rstrip setdefault split splitlines startswith strip update upper values zfill bit_length""".split())
TWO_UNDERSCORES = {"__init__", "__eq__", "__repr__", "__str__", "__len__", "__all__", "__version__"}
WORDS = re.compile(r"\b(type|typing|typing_extensions|enum|Enum|IntEnum|StrEnum|Flag|IntFlag|Generic|Protocol|ABC"
                   r"|ABCMeta|namedtuple|NamedTuple|TypedDict|TYPE_CHECKING|abstractmethod)\b"
                   r"|dataclass|overload|contextmanager")
UNUSED = set("register mro elements open input version_info with_traceback add_note format format_map".split())
NOT_AS_NAMES = set("""attrgetter breakpoint builtins compile copyright credits delattr dir eval exec exit gc getattr
    globals hasattr help id importlib license locals methodcaller os quit setattr super type vars sys""".split())
KEYWORDS = {"sorted": {"key", "reverse"}, "min": {"key", "default"}, "max": {"key", "default"}, "sum": {"start"},
            "enumerate": {"start"}, "zip": {"strict"}}
WALKED = set("zip enumerate reversed range items keys values".split())
WALKERS = set("list tuple dict sorted sum any all enumerate zip min max join".split())
PYTHONS_OWN = {name for kind in (str, int, list, dict, set, bytes) for name in dir(kind)}
FREE_VALUES = set("count index title find get join lower upper split strip copy add".split())


def nodes(tree, *kinds):
    return [node for node in ast.walk(tree) if isinstance(node, kinds)]


def bound_in(tree):
    names = [node.id for node in nodes(tree, ast.Name) if isinstance(node.ctx, ast.Store)]
    names += [node.arg for node in nodes(tree, ast.arg)]
    names += [node.name for node in nodes(tree, ast.FunctionDef, ast.ClassDef)]
    return names


def called(node):
    """The name by which a call calls, whether of a function or of a method."""
    return node.func.id if isinstance(node.func, ast.Name) else node.func.attr


def parents_in(tree):
    return {child: node for node in ast.walk(tree) for child in ast.iter_child_nodes(node)}


def methods_in(tree):
    return [node.name for kind in nodes(tree, ast.ClassDef) for node in nodes(kind, ast.FunctionDef)]


TREES = {path.name: ast.parse(path.read_text(encoding="ascii")) for path in FILES}


class LanguageTest(unittest.TestCase):
    def on_each_file(self, check):
        for name, tree in TREES.items():
            with self.subTest(file=name):
                check(name, tree)

    def test_files(self):
        self.assertIn(PACKAGE / "__init__.py", FILES)
        for path in FILES:
            self.assertRegex(path.name, r"^[a-z0-9_]+\.py$")

    def test_size_and_signs(self):
        def check(name, tree):
            text = (PACKAGE / name).read_text(encoding="ascii")
            self.assertRegex(text, r"\A[ -~\n]*\Z")
            self.assertLessEqual(len(text.splitlines()), 400)
            self.assertLessEqual(max(len(row) for row in text.splitlines()), 120)
            for node in nodes(tree, ast.FunctionDef):
                self.assertLessEqual(node.end_lineno - node.lineno + 1, 40, node.name)
            self.assertIsNone(WORDS.search(text))
        self.on_each_file(check)

    def test_forms(self):
        def check(name, tree):
            for node in ast.walk(tree):
                self.assertIsInstance(node, NODES)
            for node in nodes(tree, ast.Constant):
                self.assertIn(type(node.value), (int, str, bool, type(None)))
            for node in nodes(tree, ast.FunctionDef):
                self.assertEqual(node.decorator_list, [])
                self.assertFalse(node.args.vararg or node.args.kwarg or node.args.kwonlyargs)
            for node in nodes(tree, ast.Assign):
                self.assertEqual(len(node.targets), 1)
            for node in nodes(tree, ast.For, ast.While):
                self.assertEqual(node.orelse, [])
            for node in nodes(tree, ast.ListComp):
                self.assertEqual(len(node.generators), 1)
                self.assertLessEqual(len(node.generators[0].ifs), 1)
            self.assertEqual(nodes(tree, ast.Div, ast.MatMult), [])
            for node in nodes(tree, ast.Compare):
                if nodes(node, ast.Is, ast.IsNot):
                    self.assertIn(node.comparators[0].value, (None, True, False))
        self.on_each_file(check)

    def test_top_of_a_file(self):
        def check(name, tree):
            self.assertIsNotNone(ast.get_docstring(tree))
            for node in tree.body[1:]:
                self.assertIsInstance(node, (ast.ImportFrom, ast.FunctionDef, ast.ClassDef, ast.Assign))
            own = [node.name for node in tree.body if isinstance(node, (ast.FunctionDef, ast.ClassDef))]
            own += [node.targets[0].id for node in tree.body if isinstance(node, ast.Assign)]
            self.assertEqual(len(own), len(set(own)))
        self.on_each_file(check)

    def test_imports(self):
        drawn = {name: [] for name in TREES}

        def check(name, tree):
            for node in nodes(tree, ast.ImportFrom):
                self.assertEqual(node.level, 0)
                package, module = node.module.split(".")
                self.assertEqual(package, "agingqueue")
                for each in node.names:
                    self.assertIsNone(each.asname)
                    self.assertIn(each.name, bound_in(TREES[module + ".py"]))
                drawn[name].append(module + ".py")
        self.on_each_file(check)
        while drawn:
            free = [name for name, sources in drawn.items() if not set(sources) & set(drawn)]
            self.assertTrue(free, "files draw from one another: %s" % sorted(drawn))
            drawn = {name: sources for name, sources in drawn.items() if name not in free}

    def test_names(self):
        def check(file, tree):
            imports = [each.name for node in nodes(tree, ast.ImportFrom) for each in node.names]
            known = set(bound_in(tree)) | set(imports) | BUILTINS
            for name in bound_in(tree):
                self.assertTrue(name in TWO_UNDERSCORES or re.fullmatch(r"[A-Za-z][A-Za-z0-9_]*", name), name)
                self.assertNotIn(name, UNUSED)
                if name not in methods_in(tree):
                    self.assertFalse(hasattr(builtins, name), name)
            for node in nodes(tree, ast.FunctionDef):
                inner = [name for part in node.body for name in bound_in(part)] + bound_in(node.args)
                self.assertEqual(set(inner) & set(imports), set())
            for node in nodes(tree, ast.Name):
                self.assertIn(node.id, known)
        self.on_each_file(check)

    def test_names_that_are_not_used(self):
        def check(file, tree):
            names = bound_in(tree) + [node.id for node in nodes(tree, ast.Name)]
            self.assertEqual(set(names) & (NOT_AS_NAMES | UNUSED), set())
        self.on_each_file(check)

    def test_pythons_own_are_called_on_the_spot(self):
        def check(file, tree):
            parents = parents_in(tree)
            for node in nodes(tree, ast.Call):
                keywords = {keyword.arg for keyword in node.keywords}
                self.assertLessEqual(keywords, KEYWORDS.get(called(node), set()))
                if called(node) in WALKED:
                    above = parents[node]
                    walks = isinstance(above, (ast.For, ast.comprehension)) and above.iter is node
                    self.assertTrue(walks or isinstance(above, ast.Call) and called(above) in WALKERS, ast.dump(node))
                if called(node) in ("set", "frozenset"):
                    above = parents[node]
                    asked = isinstance(above, ast.Call) and called(above) in ("sorted", "len")
                    self.assertTrue(asked or isinstance(above, (ast.Compare, ast.BinOp)), ast.dump(node))
            for node in nodes(tree, ast.Name):
                if node.id in BUILTINS and node.id[0].islower():
                    above = parents[node]
                    self.assertIsInstance(above, (ast.Call, ast.Tuple, ast.keyword))
            for node in nodes(tree, ast.Attribute):
                if node.attr in METHODS:
                    above = parents[node]
                    self.assertTrue(isinstance(above, ast.Call) and above.func is node, node.attr)
        self.on_each_file(check)

    def test_numbers_and_texts(self):
        def check(file, tree):
            texts = [node.value for node in nodes(tree, ast.Constant) if isinstance(node.value, str)]
            self.assertEqual([text for text in texts if "%" in text], [])
            self.assertEqual(nodes(tree, ast.Pow), [])
            for node in nodes(tree, ast.FormattedValue):
                self.assertIsInstance(node.value, ast.Name)
                self.assertIsNone(node.format_spec)
        self.on_each_file(check)

    def test_what_a_loop_walks_is_not_changed_in_it(self):
        def check(file, tree):
            for loop in nodes(tree, ast.For):
                walked = {ast.unparse(node) for node in nodes(loop.iter, ast.Name, ast.Attribute)}
                for node in [inner for part in loop.body for inner in nodes(part, ast.Call)]:
                    if called(node) in ("append", "clear", "extend", "insert", "pop", "remove", "reverse", "update"):
                        self.assertNotIn(ast.unparse(node.func.value), walked)
        self.on_each_file(check)

    def test_methods_and_values(self):
        trees = list(TREES.values())
        methods = {name for tree in trees for name in methods_in(tree)}
        values = {node.attr for tree in trees for node in nodes(tree, ast.Attribute) if isinstance(node.ctx, ast.Store)}
        self.assertEqual(methods & values, set())
        self.assertEqual(values & (PYTHONS_OWN - FREE_VALUES), set())
        self.assertEqual((methods - TWO_UNDERSCORES) & (PYTHONS_OWN - METHODS - {"add", "discard"}), set())
        for tree in trees:
            for node in nodes(tree, ast.Attribute):
                self.assertIn(node.attr, methods | values | METHODS)
                self.assertNotIn(node.attr, UNUSED)


if __name__ == "__main__":
    unittest.main()
