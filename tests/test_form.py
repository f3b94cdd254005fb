"""The form of the package's files: the rules of LANGUAGE.md that can be seen in the code."""

import ast
import builtins
import functools
import io
import os
import tokenize
import unittest
import warnings

ROOT = os.path.dirname(os.path.dirname(os.path.abspath(__file__)))
PACKAGE = os.path.join(ROOT, "stoodthen")

# L8, as far as the package uses it: generators and iter are not needed here.
LET_BUILTINS = {
    "len", "range", "enumerate", "zip", "min", "max", "sum", "abs", "sorted", "reversed", "int", "str",
    "bool", "list", "tuple", "dict", "set", "isinstance", "ord", "repr", "any", "all", "divmod",
    "ValueError", "TypeError", "KeyError", "IndexError",
}
# L25.
LET_METHODS = set("""append clear copy count endswith extend find get index insert isalnum isalpha isdigit
    islower isspace isupper items join keys ljust lower lstrip partition pop remove replace reverse rfind
    rjust rpartition rsplit rstrip setdefault split splitlines startswith strip update upper values zfill
    bit_length isascii isdecimal isnumeric removeprefix removesuffix""".split())
# L2, as far as the package uses it.
LET_LIBRARY = {"math": ("comb", "factorial")}
# L17.
NEVER_NAMES = {"register", "mro", "elements", "open", "input", "law", "version_info", "with_traceback", "add_note"}
NEVER_WORDS = {
    "type", "typing", "typing_extensions", "enum", "Enum", "IntEnum", "StrEnum", "Flag", "IntFlag", "Generic",
    "Protocol", "ABC", "ABCMeta", "namedtuple", "NamedTuple", "TypedDict", "TYPE_CHECKING", "abstractmethod",
}
LET_DUNDERS = {"__init__", "__eq__", "__len__"}
# Without what interactive Python puts there.
BUILTINS = {name for name in dir(builtins) if not name.startswith("_")}
AT_ONCE = {"range", "zip", "enumerate", "reversed"}
AT_ONCE_METHODS = {"items", "keys", "values"}
TAKE_AT_ONCE = {"list", "tuple", "dict", "sorted", "sum", "any", "all", "enumerate", "zip", "min", "max"}


def package_files():
    return sorted(name for name in os.listdir(PACKAGE) if name != "__pycache__")


def read(name):
    with open(os.path.join(PACKAGE, name), encoding="utf-8", newline="") as file:
        return file.read()


TEXTS = {name: read(name) for name in package_files()}
TREES = {name: ast.parse(text) for name, text in TEXTS.items()}
FUNCTIONS = (ast.FunctionDef, ast.AsyncFunctionDef)


def parents_of(tree):
    return {child: node for node in ast.walk(tree) for child in ast.iter_child_nodes(node)}


def bound_at_top(tree):
    names = []
    for node in tree.body:
        if isinstance(node, (ast.FunctionDef, ast.ClassDef)):
            names.append(node.name)
        elif isinstance(node, ast.Assign):
            names.extend(target.id for target in node.targets)
        elif isinstance(node, ast.ImportFrom):
            names.extend(alias.name for alias in node.names)
    return names


@functools.lru_cache
def own_methods():
    found = set()
    for tree in TREES.values():
        for node in ast.walk(tree):
            if isinstance(node, ast.ClassDef):
                found.update(part.name for part in node.body if isinstance(part, ast.FunctionDef))
    return found


@functools.lru_cache
def generators():
    found = set()
    for tree in TREES.values():
        for node in ast.walk(tree):
            if isinstance(node, ast.FunctionDef):
                if any(isinstance(part, (ast.Yield, ast.YieldFrom)) for part in ast.walk(node)):
                    found.add(node.name)
    return found


class Form(unittest.TestCase):

    def each(self):
        return [(name, TEXTS[name], tree) for name, tree in TREES.items()]

    def test_files(self):
        self.assertIn("__init__.py", TEXTS)
        self.assertLessEqual(len(TEXTS), 100)
        for name in TEXTS:
            self.assertRegex(name, r"\A[a-z0-9_]+\.py\Z")

    def test_sizes_and_characters(self):
        for _, text, tree in self.each():
            lines = text.split("\n")
            self.assertLessEqual(len(lines), 399)
            self.assertTrue(all(len(line) <= 120 for line in lines))
            self.assertTrue(all(char == "\n" or " " <= char <= "~" for char in text))
            self.assertFalse(any(line.endswith(" ") for line in lines))
            for node in ast.walk(tree):
                if isinstance(node, FUNCTIONS):
                    self.assertLessEqual(node.end_lineno - node.lineno + 1, 40, node.name)

    def test_no_warnings(self):
        for name, text, _ in self.each():
            with warnings.catch_warnings():
                warnings.simplefilter("error")
                compile(text, name, "exec")

    def test_module_level(self):
        for _, _, tree in self.each():
            imports_over = False
            for place, node in enumerate(tree.body):
                if place == 0:
                    self.assertIsNotNone(ast.get_docstring(tree))
                    continue
                self.assertIsInstance(node, (ast.ImportFrom, ast.FunctionDef, ast.ClassDef, ast.Assign))
                if isinstance(node, ast.ImportFrom):
                    self.assertFalse(imports_over)
                else:
                    imports_over = True
                if isinstance(node, ast.Assign):
                    self.assertEqual(len(node.targets), 1)
                    ast.literal_eval(node.value)
            names = bound_at_top(tree)
            self.assertEqual(len(names), len(set(names)))

    def test_imports(self):
        edges = {}
        for name, _, tree in self.each():
            edges[name] = []
            for node in ast.walk(tree):
                self.assertNotIsInstance(node, ast.Import)
                if isinstance(node, ast.ImportFrom):
                    self.assertEqual(node.level, 0)
                    if node.module in LET_LIBRARY:
                        self.only_called(tree, node)
                        continue
                    package, _, module = node.module.partition(".")
                    self.assertEqual(package, "stoodthen")
                    edges[name].append(module + ".py")
                    defined = [part.name for part in TREES[module + ".py"].body
                               if isinstance(part, (ast.FunctionDef, ast.ClassDef))]
                    for alias in node.names:
                        self.assertIsNone(alias.asname)
                        self.assertIn(alias.name, defined)
                        used = [part for part in ast.walk(tree)
                                if isinstance(part, ast.Name) and part.id == alias.name]
                        self.assertTrue(used, alias.name)
        while edges:
            free = [name for name in edges if not any(other in edges for other in edges[name])]
            self.assertTrue(free, "files import each other in a ring")
            for name in free:
                del edges[name]

    def only_called(self, tree, node):
        parents = parents_of(tree)
        for alias in node.names:
            self.assertIsNone(alias.asname)
            self.assertIn(alias.name, LET_LIBRARY[node.module])
            uses = [part for part in ast.walk(tree) if isinstance(part, ast.Name) and part.id == alias.name]
            self.assertTrue(uses)
            for part in uses:
                self.assertIsInstance(parents[part], ast.Call)
                self.assertIs(parents[part].func, part)
                self.assertEqual(parents[part].keywords, [])

    def test_statements_and_expressions(self):
        barred = (
            ast.AsyncFunctionDef, ast.Global, ast.Nonlocal, ast.Lambda, ast.GeneratorExp, ast.With, ast.Match,
            ast.Await, ast.JoinedStr, ast.NamedExpr, ast.AnnAssign, ast.Delete, ast.Assert)
        for _, _, tree in self.each():
            for node in ast.walk(tree):
                self.assertNotIsInstance(node, barred, getattr(node, "lineno", None))
                if isinstance(node, (ast.BinOp, ast.AugAssign)):
                    self.assertNotIsInstance(node.op, (ast.Div, ast.MatMult))
                    if isinstance(node.op, ast.Pow):
                        self.assertIn(ast.literal_eval(node.right), range(65))
                if isinstance(node, ast.Constant):
                    self.assertNotIsInstance(node.value, (float, complex, bytes))
                if isinstance(node, FUNCTIONS):
                    self.assertEqual(node.decorator_list, [])
                    self.assertIsNone(node.returns)
                if isinstance(node, ast.Compare):
                    for op, right in zip(node.ops, node.comparators):
                        if isinstance(op, (ast.Is, ast.IsNot)):
                            self.assertIsInstance(right, ast.Constant)
                            self.assertIn(right.value, (None, True, False))

    def test_strings(self):
        for _, text, tree in self.each():
            for node in ast.walk(tree):
                if isinstance(node, ast.Constant) and isinstance(node.value, str):
                    self.assertNotIn("%", node.value)
                    self.assertFalse(node.value.startswith("__") and node.value.endswith("__"))
            docs = {id(node.body[0].value) for node in ast.walk(tree)
                    if isinstance(node, (ast.Module, ast.ClassDef, ast.FunctionDef)) and ast.get_docstring(node)}
            for node in ast.walk(tree):
                if isinstance(node, ast.Constant) and isinstance(node.value, str) and id(node) not in docs:
                    self.assertFalse(NEVER_WORDS & set(node.value.replace(".", " ").split()))
            for token in tokenize.generate_tokens(io.StringIO(text).readline):
                if token.type == tokenize.STRING:
                    self.assertNotIn("\\", token.string.replace("\\n", "").replace('\\"', ""))

    def test_names(self):
        own = {name for tree in TREES.values() for name in bound_at_top(tree)}
        for _, _, tree in self.each():
            parents = parents_of(tree)
            tops = [node.name for node in tree.body if isinstance(node, ast.ClassDef)]
            tops += [alias.name for node in tree.body if isinstance(node, ast.ImportFrom) for alias in node.names]
            for node in ast.walk(tree):
                given = []
                if isinstance(node, ast.Name) and isinstance(node.ctx, ast.Store):
                    given = [node.id]
                elif isinstance(node, ast.arg):
                    given = [node.arg]
                for name in given:
                    self.assertNotIn(name, tops)
                    self.assertNotIn(name, generators())
                if isinstance(node, (ast.FunctionDef, ast.ClassDef)):
                    given = [node.name]
                for name in given:
                    self.assertNotIn(name, BUILTINS)
                    self.assertNotIn(name, NEVER_NAMES | NEVER_WORDS)
                    self.assertTrue(not name.startswith("__") or name in LET_DUNDERS, name)
                if isinstance(node, ast.Name) and isinstance(node.ctx, ast.Load):
                    self.assertNotEqual(node.id, "_")
                    self.assertNotIn(node.id, NEVER_NAMES | NEVER_WORDS)
                    if node.id == "super":
                        self.assertIn(ast.unparse(parents[parents[node]]), ("super().__init__",))
                    elif node.id in BUILTINS and node.id not in own:
                        self.assertIn(node.id, LET_BUILTINS)
                if isinstance(node, ast.Attribute):
                    self.assertNotIn(node.attr, NEVER_NAMES | NEVER_WORDS)

    def test_calls(self):
        methods = LET_METHODS | own_methods()
        for _, _, tree in self.each():
            parents = parents_of(tree)
            for node in ast.walk(tree):
                if not isinstance(node, ast.Call):
                    continue
                if isinstance(node.func, ast.Attribute):
                    self.assertIn(node.func.attr, methods)
                    if node.func.attr == "join":
                        self.assertIsInstance(node.func.value, ast.Constant)
                    if node.func.attr in AT_ONCE_METHODS:
                        self.iterated_at_once(parents, node)
                elif isinstance(node.func, ast.Name):
                    if node.func.id in AT_ONCE or node.func.id in generators():
                        self.iterated_at_once(parents, node)
                    if node.func.id in LET_BUILTINS:
                        self.assertTrue(all(word.arg == "default" for word in node.keywords))
                else:
                    self.fail("a call of neither a name nor a method")

    def iterated_at_once(self, parents, node):
        over = parents[node]
        if isinstance(over, (ast.For, ast.comprehension)):
            self.assertIs(over.iter, node)
        else:
            self.assertIsInstance(over, ast.Call)
            self.assertIsInstance(over.func, ast.Name)
            let = TAKE_AT_ONCE
            if isinstance(node.func, ast.Name) and node.func.id == "range":
                let = let | {"len", "reversed"}
            self.assertIn(over.func.id, let)

    def test_sets(self):
        for _, _, tree in self.each():
            parents = parents_of(tree)
            for node in ast.walk(tree):
                made = isinstance(node, (ast.Set, ast.SetComp)) or (
                    isinstance(node, ast.Call) and isinstance(node.func, ast.Name) and node.func.id == "set")
                if not made:
                    continue
                over = parents[node]
                if isinstance(over, ast.Assign):
                    self.stored_set(parents, over)
                else:
                    self.assertIsInstance(over, ast.Call)
                    self.assertIn(over.func.id, ("sorted", "len"))
                    self.assertEqual(over.keywords, [])

    def stored_set(self, parents, assign):
        name = assign.targets[0].id
        function = assign
        while not isinstance(function, ast.FunctionDef):
            function = parents[function]
        uses = [part for part in ast.walk(function) if isinstance(part, ast.Name) and part.id == name]
        self.assertEqual(sum(isinstance(part.ctx, ast.Store) for part in uses), 1)
        for part in uses:
            if isinstance(part.ctx, ast.Load):
                over = parents[part]
                self.assertIsInstance(over, ast.Compare)
                self.assertIsInstance(over.ops[0], (ast.In, ast.NotIn))
                self.assertIs(over.comparators[0], part)

    def test_errors(self):
        own = {node.name for node in TREES["errors.py"].body if isinstance(node, ast.ClassDef)}
        for _, _, tree in self.each():
            parents = parents_of(tree)
            for node in ast.walk(tree):
                if isinstance(node, ast.Try):
                    self.assertEqual((node.finalbody, len(node.handlers)), ([], 1))
                    self.assertIn(node.handlers[0].type.id, own)
                if isinstance(node, ast.Raise) and node.exc is None:
                    self.assertIsInstance(parents[node], ast.ExceptHandler)
                elif isinstance(node, ast.Raise):
                    self.assertIsInstance(node.exc, ast.Call)
                    self.assertIn(node.exc.func.id, own)

    def test_loops_leave_alone_what_they_go_over(self):
        changing = {"append", "clear", "extend", "insert", "pop", "remove", "reverse", "setdefault", "update"}
        for _, _, tree in self.each():
            for loop in [node for node in ast.walk(tree) if isinstance(node, ast.For)]:
                over = {ast.dump(part, annotate_fields=False) for part in ast.walk(loop.iter)
                        if isinstance(part, (ast.Name, ast.Attribute))}
                over = {text.replace("Store()", "Load()") for text in over}
                for node in [part for row in loop.body for part in ast.walk(row)]:
                    changed = []
                    if isinstance(node, ast.Call) and isinstance(node.func, ast.Attribute):
                        changed = [node.func.value] if node.func.attr in changing else []
                    elif isinstance(node, (ast.Assign, ast.AugAssign)):
                        targets = node.targets if isinstance(node, ast.Assign) else [node.target]
                        changed = [part.value for part in targets if isinstance(part, ast.Subscript)]
                    for part in changed:
                        self.assertNotIn(ast.dump(part, annotate_fields=False), over, loop.lineno)

    def test_classes(self):
        for _, _, tree in self.each():
            for node in ast.walk(tree):
                if not isinstance(node, ast.ClassDef):
                    continue
                methods = [part.name for part in node.body if isinstance(part, ast.FunctionDef)]
                self.assertEqual(len(methods), len(set(methods)))
                stored = {part.attr for part in ast.walk(node)
                          if isinstance(part, ast.Attribute) and isinstance(part.ctx, ast.Store)}
                self.assertFalse(stored & set(methods))
                for part in node.body:
                    if isinstance(part, ast.FunctionDef) and part.name in ("__eq__", "__len__"):
                        self.assertIsInstance(part.body[-1], ast.Return)
                        self.assertEqual(len(part.body), 1)


if __name__ == "__main__":
    unittest.main()
