"""The rules of the language that can be seen in the code: each is named by its number."""

import ast
import builtins
import pathlib
import unittest

import pourdrains

PACKAGE = pathlib.Path(pourdrains.__file__).parent
FILES = {path.stem: path.read_text() for path in sorted(PACKAGE.glob("*.py"))}
TREES = {stem: ast.parse(text) for stem, text in FILES.items()}

LIBRARY = {
    "heapq": "heappush heappop heapify heapreplace heappushpop",
    "math": "gcd lcm isqrt comb perm factorial",
    "itertools": "product combinations permutations chain accumulate pairwise islice zip_longest",
    "collections": "defaultdict",
}
BUILTINS = """len range enumerate zip min max sum abs sorted reversed int str bool bytes list tuple dict set frozenset
isinstance ord repr any all divmod pow getattr hasattr setattr map iter next Exception ValueError TypeError KeyError
IndexError LookupError ZeroDivisionError ArithmeticError OverflowError RuntimeError NotImplementedError AttributeError
StopIteration NotImplemented""".split()
METHODS = """append clear copy count endswith extend find get index insert isalnum isalpha isdigit islower isspace isupper
items join keys ljust lower lstrip partition pop remove replace reverse rfind rjust rpartition rsplit rstrip setdefault
split splitlines startswith strip update upper values zfill bit_length add discard sort format""".split()
BARRED = """register mro elements open input law version_info with_traceback add_note attrgetter breakpoint builtins compile
copyright credits delattr dir eval exec exit gc globals help id importlib license locals methodcaller os quit super type
vars sys""".split()
STATEMENTS = (
    ast.Assign, ast.AugAssign, ast.If, ast.While, ast.For, ast.Return, ast.Break, ast.Continue, ast.Pass, ast.Raise,
    ast.Assert, ast.Delete, ast.Nonlocal, ast.Match, ast.With, ast.Try, ast.Expr, ast.FunctionDef, ast.ClassDef,
    ast.ImportFrom,
)  # fmt: skip


def nodes(kind):
    for stem, tree in TREES.items():
        for node in ast.walk(tree):
            if isinstance(node, kind):
                yield stem, node


def imports_of(tree):
    return [node for node in ast.walk(tree) if isinstance(node, ast.ImportFrom)]


def bound_in(tree):
    """The names that are bound in functions: parameters, targets, nested functions."""
    found = []
    for node in ast.walk(tree):
        if isinstance(node, ast.arg):
            found.append(node.arg)
        if isinstance(node, ast.Name) and isinstance(node.ctx, ast.Store):
            found.append(node.id)
        if isinstance(node, ast.FunctionDef):
            found += [inner.name for inner in ast.walk(node) if isinstance(inner, ast.FunctionDef) and inner is not node]
    return found


class Language(unittest.TestCase):
    def test_l1_files(self):
        found = [path for path in PACKAGE.iterdir() if path.name != "__pycache__" and path.suffix != ".py"]
        self.assertEqual(found, [])

    def test_l2_l16_imports(self):
        for stem, tree in TREES.items():
            for node in ast.walk(tree):
                self.assertNotIsInstance(node, ast.Import, stem)
            for node in imports_of(tree):
                self.assertIn(node, tree.body)
                self.assertTrue(all(alias.asname is None for alias in node.names))
                names = [alias.name for alias in node.names]
                if node.module in LIBRARY:
                    self.assertLessEqual(set(names), set(LIBRARY[node.module].split()), stem)
                    continue
                self.assertTrue(node.module.startswith("pourdrains."), stem)
                self.assertLessEqual(set(names), self.defined(node.module[11:]), (stem, node.module))

    def defined(self, stem):
        body = TREES[stem].body
        found = {node.name for node in body if isinstance(node, (ast.FunctionDef, ast.ClassDef))}
        return found | {node.targets[0].id for node in body if isinstance(node, ast.Assign)}

    def test_imports_are_used(self):
        for stem, tree in TREES.items():
            used = {node.id for node in ast.walk(tree) if isinstance(node, ast.Name)}
            for node in imports_of(tree):
                self.assertLessEqual({alias.name for alias in node.names}, used, stem)

    def test_l16_no_circles(self):
        ahead = {stem: {node.module[11:] for node in imports_of(tree) if node.module.startswith("pourdrains.")}
                 for stem, tree in TREES.items()}  # fmt: skip
        self.assertEqual(ahead["__init__"], set())
        while ahead:
            free = [stem for stem, needed in ahead.items() if not needed & set(ahead)]
            self.assertNotEqual(free, [], "these import one another: " + str(sorted(ahead)))
            ahead = {stem: needed for stem, needed in ahead.items() if stem not in free}

    def test_l3_module_level(self):
        for stem, tree in TREES.items():
            names = []
            for node in tree.body:
                if isinstance(node, ast.Expr):
                    self.assertIsInstance(node.value.value, str)
                elif isinstance(node, ast.Assign):
                    ast.literal_eval(node.value)
                    names.append(node.targets[0].id)
                elif isinstance(node, ast.ImportFrom):
                    names += [alias.name for alias in node.names]
                else:
                    self.assertIsInstance(node, (ast.FunctionDef, ast.ClassDef), stem)
                    names.append(node.name)
            self.assertEqual(len(names), len(set(names)), stem)

    def test_l4_l6_statements(self):
        for stem, node in nodes(ast.stmt):
            self.assertIsInstance(node, STATEMENTS, (stem, node.lineno))
        for stem, node in nodes((ast.FunctionDef, ast.ClassDef)):
            self.assertEqual(node.decorator_list, [], stem)

    def test_l7_l13_values(self):
        for stem, node in nodes(ast.Constant):
            self.assertNotIsInstance(node.value, (float, complex, bytes), stem)
        for stem, node in nodes((ast.Div, ast.MatMult, ast.Set)):
            self.fail((stem, node))
        for stem, node in nodes(ast.AugAssign):
            self.assertNotIsInstance(node.op, ast.Pow, stem)

    def test_l27_exponents(self):
        for stem, node in nodes(ast.BinOp):
            if isinstance(node.op, ast.Pow):
                self.assertIn(ast.literal_eval(node.right), range(65), (stem, node.lineno))

    def test_l7_generators_stand_in_calls(self):
        for stem, tree in TREES.items():
            told = [arg for node in ast.walk(tree) if isinstance(node, ast.Call) for arg in node.args]
            for node in ast.walk(tree):
                if isinstance(node, ast.GeneratorExp):
                    self.assertIn(node, told, (stem, node.lineno))

    def test_l8_builtins(self):
        for stem, node in nodes(ast.Name):
            if hasattr(builtins, node.id):
                self.assertIn(node.id, BUILTINS, (stem, node.lineno))

    def test_l10_sizes(self):
        for stem, text in FILES.items():
            self.assertLess(len(text.split("\n")), 400, stem)
            self.assertLessEqual(max(map(len, text.split("\n"))), 120, stem)
        for stem, node in nodes(ast.FunctionDef):
            self.assertLessEqual(node.end_lineno - node.lineno + 1, 40, (stem, node.name))

    def test_l12_l14_characters(self):
        for stem, text in FILES.items():
            self.assertTrue(all(sign == "\n" or " " <= sign <= "~" for sign in text), stem)
            self.assertNotIn("_wall", text)

    def test_l15_l17_names(self):
        for stem, tree in TREES.items():
            bound = set(bound_in(tree))
            imported = {alias.name for node in imports_of(tree) for alias in node.names}
            classes = {node.name for node in ast.walk(tree) if isinstance(node, ast.ClassDef)}
            self.assertEqual(bound & (imported | classes), set(), stem)
            own = bound | {node.name for node in ast.walk(tree) if isinstance(node, (ast.FunctionDef, ast.ClassDef))}
            own = own - {"__init__"}
            self.assertEqual({name for name in own if hasattr(builtins, name)}, set(), stem)
            self.assertEqual({name for name in own if name in BARRED or name in BUILTINS}, set(), stem)
        for stem, node in nodes(ast.Attribute):
            self.assertNotIn(node.attr, BARRED, stem)

    def test_l20_is(self):
        for stem, node in nodes(ast.Compare):
            for sign, right in zip(node.ops, node.comparators):
                if isinstance(sign, (ast.Is, ast.IsNot)):
                    self.assertIsInstance(right, ast.Constant, (stem, node.lineno))

    def test_l25_methods(self):
        own = {item.name for _, node in nodes(ast.ClassDef) for item in node.body if isinstance(item, ast.FunctionDef)}
        self.assertEqual(own & set(METHODS), set())
        for stem, node in nodes(ast.Call):
            if isinstance(node.func, ast.Attribute):
                self.assertIn(node.func.attr, own | set(METHODS), (stem, node.lineno))

    def test_l5_l18_classes(self):
        for stem, node in nodes(ast.ClassDef):
            methods = [item.name for item in node.body if isinstance(item, ast.FunctionDef)]
            self.assertEqual(len(methods), len(set(methods)))
            self.assertLessEqual({name for name in methods if name.startswith("__")}, {"__init__"})
            stored = {
                target.attr
                for target in ast.walk(node)
                if isinstance(target, ast.Attribute) and isinstance(target.ctx, ast.Store)
            }
            self.assertEqual(stored & set(methods), set(), (stem, node.name))

    def test_l27_strings(self):
        for stem, node in nodes(ast.Constant):
            if isinstance(node.value, str):
                self.assertNotIn("%", node.value, stem)
        for stem, text in FILES.items():
            for at, sign in enumerate(text):
                if sign == "\\":
                    self.assertIn(text[at + 1], "nt\\'\"", stem)
