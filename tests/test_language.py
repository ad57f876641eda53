"""The rules of the language that can be seen in the code, for every file of the package."""

import ast
import builtins
import io
import pathlib
import re
import tokenize
import unittest

PACKAGE = pathlib.Path(__file__).resolve().parent.parent / "nochaingains"
FILES = sorted(path for path in PACKAGE.rglob("*") if "__pycache__" not in path.parts and path.is_file())
TREES = {path: ast.parse(path.read_text()) for path in FILES if path.suffix == ".py"}

LIBRARY = {
    "heapq": "heappush heappop heapify heapreplace heappushpop",
    "math": "gcd lcm isqrt comb perm factorial",
    "itertools": "product combinations permutations chain accumulate pairwise islice zip_longest",
    "collections": "defaultdict",
}
BUILTINS = set(
    "len range enumerate zip min max sum abs sorted reversed int str bool bytes list tuple dict set frozenset"
    " isinstance ord chr repr any all divmod pow getattr hasattr setattr Exception ValueError TypeError KeyError"
    " IndexError LookupError ZeroDivisionError ArithmeticError OverflowError RuntimeError NotImplementedError"
    " AttributeError StopIteration NotImplemented iter next map super property staticmethod classmethod".split()
)
# Without what an earlier doctest may have left there.
BUILTIN_NAMES = set(dir(builtins)) - {"_"}
METHODS = set(
    "append clear copy count endswith extend find get index insert isalnum isalpha isdigit islower isspace isupper"
    " items join keys ljust lower lstrip partition pop remove replace reverse rfind rjust rpartition rsplit rstrip"
    " setdefault split splitlines startswith strip update upper values zfill bit_length title capitalize swapcase"
    " casefold center expandtabs removeprefix removesuffix rindex isascii isdecimal isnumeric istitle isidentifier"
    " isprintable add discard sort format __init__".split()
)
BARRED = set(
    "register mro elements open input law version_info with_traceback add_note attrgetter breakpoint builtins"
    " compile copyright credits delattr dir eval exec exit gc globals help id importlib license locals methodcaller"
    " os quit type vars typing enum namedtuple dataclass print global".split()
)
ON_THE_SPOT = set("list tuple dict sorted sum any all enumerate zip min max".split())


def parents_of(tree):
    return {child: node for node in ast.walk(tree) for child in ast.iter_child_nodes(node)}


def names_bound(tree):
    """All names that are given a meaning: (name, node)."""
    for node in ast.walk(tree):
        if isinstance(node, (ast.FunctionDef, ast.ClassDef)):
            yield node.name, node
        elif isinstance(node, ast.arg):
            yield node.arg, node
        elif isinstance(node, ast.Name) and isinstance(node.ctx, (ast.Store, ast.Del)):
            yield node.id, node
        elif isinstance(node, ast.MatchAs) and node.name:
            yield node.name, node
        elif isinstance(node, ast.ExceptHandler) and node.name:
            yield node.name, node


def is_plain(node, functions):
    if isinstance(node, ast.Constant):
        return True
    if isinstance(node, ast.UnaryOp):
        return isinstance(node.op, ast.USub) and is_plain(node.operand, functions)
    if isinstance(node, ast.Name):
        return node.id in functions
    if isinstance(node, (ast.Tuple, ast.List)):
        return all(is_plain(item, functions) for item in node.elts)
    return isinstance(node, ast.Dict) and all(is_plain(item, functions) for item in node.keys + node.values)


class LanguageTest(unittest.TestCase):
    def every(self, *kinds):
        for path, tree in TREES.items():
            for node in ast.walk(tree):
                if not kinds or isinstance(node, kinds):
                    yield path, node

    def test_files(self):
        for path in FILES:
            self.assertRegex(path.name, r"\A[a-z_][a-z0-9_]*\.py\Z")
            text = path.read_text()
            self.assertLessEqual(set(text), set("\n" + "".join(map(chr, range(32, 127)))))
            lines = text.split("\n")
            self.assertLess(len(lines), 400)
            self.assertLessEqual(max(map(len, lines)), 120)
            self.assertNotIn("\\x", text)

    def test_imports(self):
        edges = {}
        for path, tree in TREES.items():
            for node in ast.walk(tree):
                self.assertNotIsInstance(node, ast.Import)
                if not isinstance(node, ast.ImportFrom):
                    continue
                self.assertIn(node, tree.body)
                self.assertEqual(node.level, 0)
                self.assertTrue(all(name.asname is None for name in node.names))
                if node.module in LIBRARY:
                    self.assertLessEqual({name.name for name in node.names}, set(LIBRARY[node.module].split()))
                    continue
                package, module = node.module.split(".")
                self.assertEqual(package, "nochaingains")
                edges.setdefault(path.stem, set()).add(module)
                theirs = {n.name for n in TREES[PACKAGE / (module + ".py")].body
                          if isinstance(n, (ast.FunctionDef, ast.ClassDef))}
                self.assertLessEqual({name.name for name in node.names}, theirs)
        while edges:
            leaves = [name for name in edges if not edges[name] & set(edges)]
            self.assertTrue(leaves, "files import each other: " + str(sorted(edges)))
            for name in leaves:
                del edges[name]

    def test_module_level(self):
        for path, tree in TREES.items():
            functions = set()
            seen = set()
            for place, node in enumerate(tree.body):
                with self.subTest(path.name, line=node.lineno):
                    if isinstance(node, ast.Expr):
                        self.assertEqual(place, 0)
                    elif isinstance(node, ast.Assign):
                        self.assertEqual([type(t) for t in node.targets], [ast.Name])
                        self.assertTrue(is_plain(node.value, functions))
                        names = [node.targets[0].id]
                    elif isinstance(node, ast.ImportFrom):
                        names = [name.name for name in node.names]
                    else:
                        self.assertIsInstance(node, (ast.FunctionDef, ast.ClassDef))
                        names = [node.name]
                        functions.add(node.name)
                    if not isinstance(node, ast.Expr):
                        self.assertFalse(seen & set(names))
                        seen |= set(names)

    def test_statements(self):
        for _, node in self.every():
            self.assertNotIsInstance(node, (ast.Global, ast.AsyncFunctionDef, ast.Await, ast.AsyncFor, ast.AsyncWith,
                                            ast.Div, ast.MatMult, ast.AnnAssign))
            if isinstance(node, ast.ExceptHandler):
                self.assertIsNotNone(node.type)
            if isinstance(node, ast.FunctionDef):
                self.assertLessEqual(node.end_lineno - node.lineno + 1, 40)
                self.assertEqual(node.decorator_list, [])
            if isinstance(node, ast.Compare):
                for op, right in zip(node.ops, node.comparators):
                    if isinstance(op, (ast.Is, ast.IsNot)):
                        self.assertIsInstance(right, ast.Constant)
            if isinstance(node, ast.BinOp) and isinstance(node.op, ast.Pow):
                self.assertIsInstance(node.right, ast.Constant)
            if isinstance(node, ast.Constant):
                self.assertNotIsInstance(node.value, (float, complex))
                if isinstance(node.value, str):
                    self.assertNotIn("%", node.value)

    def test_names(self):
        for path, tree in TREES.items():
            outer = {n.name for n in tree.body if isinstance(n, ast.ClassDef)}
            outer |= {a.name for n in tree.body if isinstance(n, ast.ImportFrom) for a in n.names}
            methods = [n for c in tree.body if isinstance(c, ast.ClassDef) for n in c.body]
            for name, node in names_bound(tree):
                with self.subTest(path.name, name=name, line=node.lineno):
                    self.assertRegex(name, r"\A(_?[A-Za-z][A-Za-z0-9_]*|_|__init__)\Z")
                    self.assertNotIn(name, BUILTIN_NAMES)
                    self.assertNotIn(name, BARRED)
                    # A method is no name of its file, so it may be called like an import.
                    if not isinstance(node, ast.ClassDef) and node not in methods:
                        self.assertNotIn(name, outer)
            for node in ast.walk(tree):
                if isinstance(node, ast.Name) and isinstance(node.ctx, ast.Load):
                    self.assertNotEqual(node.id, "_")
                    if node.id in BUILTIN_NAMES:
                        self.assertIn(node.id, BUILTINS)

    def test_attributes_and_methods(self):
        own, assigned = set(), set()
        for tree in TREES.values():
            for node in ast.walk(tree):
                if isinstance(node, ast.ClassDef):
                    own |= {n.name for n in node.body if isinstance(n, ast.FunctionDef)}
                if isinstance(node, ast.Attribute) and isinstance(node.ctx, ast.Store):
                    assigned.add(node.attr)
        self.assertFalse(own & assigned)
        self.assertFalse((own | assigned) & BARRED)
        for path, tree in TREES.items():
            parents = parents_of(tree)
            for node in ast.walk(tree):
                if isinstance(node, ast.Attribute) and isinstance(node.ctx, ast.Load):
                    call = parents[node]
                    with self.subTest(path.name, line=node.lineno, name=node.attr):
                        if isinstance(call, ast.Call) and call.func is node:
                            self.assertIn(node.attr, METHODS | own)
                        else:
                            self.assertIn(node.attr, assigned)

    def test_iterated_on_the_spot(self):
        for path, tree in TREES.items():
            parents = parents_of(tree)
            for node in ast.walk(tree):
                name = node.func.id if isinstance(node, ast.Call) and isinstance(node.func, ast.Name) else None
                if name not in ("zip", "enumerate", "reversed", "range", "combinations", "product", "permutations"):
                    continue
                around = parents[node]
                with self.subTest(path.name, line=node.lineno):
                    if isinstance(around, (ast.For, ast.comprehension)):
                        self.assertIs(around.iter, node)
                    else:
                        self.assertIsInstance(around, ast.Call)
                        self.assertIn(around.func.id, ON_THE_SPOT)

    def test_sets(self):
        for path, tree in TREES.items():
            for function in [n for n in ast.walk(tree) if isinstance(n, ast.FunctionDef)]:
                parents = parents_of(function)
                stored = set()
                for node in ast.walk(function):
                    made = isinstance(node, (ast.Set, ast.SetComp)) or (
                        isinstance(node, ast.Call) and isinstance(node.func, ast.Name) and node.func.id == "set")
                    if not made:
                        continue
                    around = parents[node]
                    while isinstance(around, ast.BinOp):
                        around = parents[around]
                    with self.subTest(path.name, line=node.lineno):
                        if isinstance(around, ast.Assign):
                            self.assertIsInstance(around.targets[0], ast.Name)
                            stored.add(around.targets[0].id)
                        elif isinstance(around, ast.Call):
                            self.assertIn(around.func.id, ("sorted", "len"))
                        else:
                            self.assertIsInstance(around, ast.Compare)
                for name in stored:
                    self.check_stored_set(path, function, parents, name)

    def check_stored_set(self, path, function, parents, name):
        uses = [n for n in ast.walk(function) if isinstance(n, ast.Name) and n.id == name]
        self.assertEqual(len([n for n in uses if isinstance(n.ctx, ast.Store)]), 1)
        for node in uses:
            around = parents[node]
            with self.subTest(path.name, line=node.lineno, name=name):
                if isinstance(around, ast.Attribute):
                    self.assertIn(around.attr, ("add", "discard"))
                    self.assertIsInstance(parents[parents[around]], ast.Expr)
                elif isinstance(around, ast.Call):
                    self.assertIn(around.func.id, ("len", "sorted"))
                elif isinstance(around, ast.Compare):
                    self.assertIn(node, around.comparators + [around.left])
                else:
                    self.assertIsInstance(around, (ast.Assign, ast.If, ast.While, ast.UnaryOp))

    def test_loops_do_not_change_what_they_go_over(self):
        for path, loop in self.every(ast.For):
            over = {n.id for n in ast.walk(loop.iter) if isinstance(n, ast.Name)}
            if isinstance(loop.iter, ast.Call) and getattr(loop.iter.func, "id", "") in ("list", "tuple", "sorted"):
                continue
            for node in ast.walk(loop):
                if isinstance(node, ast.Attribute) and isinstance(node.value, ast.Name) and node.value.id in over:
                    self.assertNotIn(node.attr, ("append", "pop", "extend", "insert", "remove", "clear", "update"))

    def test_strings_and_words(self):
        for path in TREES:
            tokens = tokenize.generate_tokens(io.StringIO(path.read_text()).readline)
            for token in tokens:
                if token.type == tokenize.STRING:
                    self.assertLessEqual(set(re.findall(r"\\(.)", token.string)), set("nt\\'\""))
                if token.type == tokenize.NAME:
                    self.assertNotIn(token.string, BARRED)


if __name__ == "__main__":
    unittest.main()
