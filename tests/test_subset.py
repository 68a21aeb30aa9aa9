"""The code of the package keeps to the subset of the language, as far as a short look can tell."""

import ast
import builtins
import pathlib
import unittest

PACKAGE = pathlib.Path(__file__).resolve().parent.parent / "slipreach"

BUILTINS = set("""len range enumerate zip min max sum abs sorted reversed int str bool list tuple dict set isinstance
ord repr any all divmod iter next ValueError TypeError KeyError IndexError LookupError NotImplemented super property
staticmethod classmethod""".split())

METHODS = set("""append clear copy count endswith add extend find get index insert isalnum isalpha isdigit islower isspace
isupper items join keys ljust lower lstrip partition pop remove replace reverse rfind rjust rpartition rsplit rstrip
setdefault split splitlines startswith strip update upper values zfill bit_length""".split())

DOUBLE = set("""__init__ __eq__ __repr__ __str__ __len__ __enter__ __exit__ __call__ __iter__ __lt__ __le__ __gt__
__ge__ __ne__ __add__ __sub__ __and__ __or__ __xor__ __rshift__ __lshift__ __radd__ __rand__ __ror__ __iand__ __ior__
__invert__ __bool__ __contains__ __getitem__ __setitem__ __mul__""".split())

PROPERTIES = {"worths", "whole", "blank", "settings", "keeps"}

CALLABLE = {"builder"}

LIBRARY = {"heapq": {"heappush", "heappop"}}

BARRED = set("""register mro elements open input law version_info with_traceback add_note""".split())

WORDS = set("""typing typing_extensions enum Enum IntEnum StrEnum Flag IntFlag Generic Protocol ABC ABCMeta namedtuple
NamedTuple TypedDict TYPE_CHECKING abstractmethod dataclass overload contextmanager""".split())

ATTRIBUTES = set("""items keys values pop update append clear extend insert remove reverse setdefault sort args encode
decode hex fromhex format""".split())

AT_ONCE = {"zip", "enumerate", "reversed", "range"}

STATEMENTS = (ast.FunctionDef, ast.ClassDef, ast.Return, ast.Assign, ast.AugAssign, ast.For, ast.While, ast.If,
              ast.Raise, ast.Try, ast.Assert, ast.Delete, ast.Pass, ast.Break, ast.Continue, ast.Expr, ast.Match,
              ast.With, ast.ImportFrom, ast.Nonlocal)


def trees():
    return {path.stem: (path.read_text(), ast.parse(path.read_text())) for path in sorted(PACKAGE.glob("*.py"))}


def parents_of(tree):
    return {child: node for node in ast.walk(tree) for child in ast.iter_child_nodes(node)}


def functions(tree):
    return [node for node in ast.walk(tree) if isinstance(node, ast.FunctionDef)]


def docstrings(tree):
    for node in ast.walk(tree):
        if isinstance(node, (ast.Module, ast.ClassDef, ast.FunctionDef)) and ast.get_docstring(node) is not None:
            yield node.body[0].value


class Subset(unittest.TestCase):
    def setUp(self):
        self.trees = trees()
        self.own_methods = set()
        self.attributes = set()
        for _, tree in self.trees.values():
            for node in ast.walk(tree):
                if isinstance(node, ast.ClassDef):
                    self.own_methods |= {part.name for part in node.body if isinstance(part, ast.FunctionDef)}
                if isinstance(node, ast.Attribute) and isinstance(node.ctx, ast.Store):
                    self.attributes.add(node.attr)

    def each(self):
        for name, (_, tree) in self.trees.items():
            parents = parents_of(tree)
            for node in ast.walk(tree):
                yield name, node, parents

    def test_files(self):
        for path in PACKAGE.iterdir():
            self.assertTrue(path.suffix == ".py" or path.name == "__pycache__", path)
        for name, (text, _) in self.trees.items():
            lines = text.split("\n")
            self.assertLessEqual(len(lines), 399, name)
            for line in lines:
                self.assertLessEqual(len(line), 120, (name, line))
                self.assertTrue(all(" " <= sign <= "~" for sign in line), (name, line))

    def test_functions_are_short(self):
        for name, (_, tree) in self.trees.items():
            for node in functions(tree):
                self.assertLessEqual(node.end_lineno - node.lineno + 1, 40, (name, node.name))

    def test_imports(self):
        graph = {}
        for name, (_, tree) in self.trees.items():
            graph[name] = set()
            for node in ast.walk(tree):
                self.assertNotIsInstance(node, ast.Import)
                if not isinstance(node, ast.ImportFrom):
                    continue
                self.assertIn(node, tree.body)
                if node.module in LIBRARY:
                    self.assertTrue({alias.name for alias in node.names} <= LIBRARY[node.module], name)
                    continue
                package, _, module = node.module.partition(".")
                self.assertEqual((package, node.level), ("slipreach", 0))
                graph[name].add(module)
                other = self.trees[module][1].body
                defined = {part.name for part in other if isinstance(part, (ast.FunctionDef, ast.ClassDef))}
                defined |= {part.targets[0].id for part in other if isinstance(part, ast.Assign)}
                used = {part.id for part in ast.walk(tree) if isinstance(part, ast.Name)}
                for alias in node.names:
                    self.assertIn(alias.name, defined, (name, module))
                    self.assertIn(alias.name, used, (name, module))
                    self.assertIsNone(alias.asname)
        while graph:
            free = [name for name in graph if not graph[name] & set(graph)]
            self.assertTrue(free, f"imports go round: {sorted(graph)}")
            for name in free:
                del graph[name]

    def test_module_level(self):
        for name, (_, tree) in self.trees.items():
            bound = []
            for at, node in enumerate(tree.body):
                self.assertIsInstance(node, (ast.Expr, ast.ImportFrom, ast.FunctionDef, ast.ClassDef, ast.Assign))
                if isinstance(node, ast.Expr):
                    self.assertEqual(at, 0)
                elif isinstance(node, ast.ImportFrom):
                    bound += [alias.name for alias in node.names]
                elif isinstance(node, ast.Assign):
                    bound.append(node.targets[0].id)
                    for part in ast.walk(node.value):
                        self.assertNotIsInstance(part, (ast.Call, ast.ListComp, ast.Lambda), name)
                else:
                    bound.append(node.name)
            self.assertEqual(len(bound), len(set(bound)), name)

    def test_statements_and_expressions(self):
        for name, node, _ in self.each():
            where = (name, getattr(node, "lineno", 0))
            if isinstance(node, ast.stmt):
                self.assertIsInstance(node, STATEMENTS, where)
            self.assertNotIsInstance(node, (ast.GeneratorExp, ast.Div, ast.Await, ast.MatMult), where)
            if isinstance(node, ast.Constant):
                self.assertNotIsInstance(node.value, float, where)
            if isinstance(node, ast.Compare):
                for sign, other in zip(node.ops, node.comparators):
                    if isinstance(sign, (ast.Is, ast.IsNot)):
                        self.assertIn(getattr(other, "value", 0), (None, True, False), where)

    def test_strings(self):
        for name, (text, tree) in self.trees.items():
            told = list(docstrings(tree))
            for node in ast.walk(tree):
                if isinstance(node, ast.Constant) and isinstance(node.value, str):
                    self.assertNotIn("%", node.value)
                    self.assertFalse(node.value.endswith("._"))
                    if node not in told:
                        self.assertFalse(set(node.value.split()) & WORDS, (name, node.lineno))

    def test_names(self):
        shadow = set(dir(builtins))
        for name, (_, tree) in self.trees.items():
            imported = {alias.name for node in tree.body if isinstance(node, ast.ImportFrom) for alias in node.names}
            classes = {node.name for node in tree.body if isinstance(node, ast.ClassDef)}
            known = imported | classes | {node.name for node in functions(tree)}
            known |= {node.targets[0].id for node in tree.body if isinstance(node, ast.Assign)}
            for node in ast.walk(tree):
                new = None
                if isinstance(node, ast.Name) and isinstance(node.ctx, ast.Store):
                    new = node.id
                elif isinstance(node, ast.arg):
                    new = node.arg
                elif isinstance(node, ast.ExceptHandler):
                    new = node.name
                if new is not None:
                    known.add(new)
                    self.assertNotIn(new, shadow | BARRED | WORDS | imported | classes, (name, node.lineno))
                    self.assertFalse(new.startswith("__"))
                if isinstance(node, ast.FunctionDef) and not node.name.startswith("__"):
                    self.assertNotIn(node.name, BUILTINS | BARRED | WORDS, name)
                if isinstance(node, ast.Attribute):
                    self.assertNotIn(node.attr, BARRED | WORDS, name)
            for node in ast.walk(tree):
                if isinstance(node, ast.Name) and isinstance(node.ctx, ast.Load):
                    self.assertIn(node.id, known | BUILTINS, (name, node.lineno))

    def test_classes(self):
        for name, node, _ in self.each():
            if not isinstance(node, ast.ClassDef):
                continue
            methods = [part.name for part in node.body if isinstance(part, ast.FunctionDef)]
            self.assertEqual(len(methods), len(set(methods)), (name, node.name))
            stored = {part.attr for part in ast.walk(node)
                      if isinstance(part, ast.Attribute) and isinstance(part.ctx, ast.Store)}
            self.assertFalse(stored & set(methods), (name, node.name))
            for method in methods:
                self.assertTrue(method in DOUBLE or not method.startswith("__"), (name, method))
            for part in node.body:
                if isinstance(part, ast.FunctionDef):
                    decorators = [mark.id for mark in part.decorator_list]
                    self.assertIn(decorators, ([], ["property"], ["staticmethod"], ["classmethod"]))
        self.assertFalse(self.attributes & ATTRIBUTES)
        # The document asks for the attributes of Add and Paper, and for the methods of Schema and Fates.
        self.assertEqual(self.attributes & self.own_methods, {"setting", "example"})

    def test_attributes(self):
        for name, node, parents in self.each():
            if not isinstance(node, ast.Attribute) or isinstance(node.ctx, ast.Store):
                continue
            parent = parents[node]
            if isinstance(parent, ast.Call) and parent.func is node:
                self.assertIn(node.attr, METHODS | CALLABLE | self.own_methods | {"__init__"}, (name, node.lineno))
            else:
                self.assertIn(node.attr, self.attributes | PROPERTIES, (name, node.lineno))

    def test_iterated_at_once(self):
        for name, node, parents in self.each():
            if not isinstance(node, ast.Call):
                continue
            called = getattr(node.func, "id", getattr(node.func, "attr", None))
            is_view = isinstance(node.func, ast.Attribute) and called in ("items", "keys", "values")
            if called in AT_ONCE and isinstance(node.func, ast.Name) or is_view:
                parent = parents[node]
                if isinstance(parent, ast.Call):
                    self.assertIn(parent.func.id, ("list", "tuple", "dict", "sorted", "sum", "enumerate", "zip"))
                else:
                    self.assertIsInstance(parent, (ast.For, ast.comprehension), (name, node.lineno))
            if called == "set":
                parent = parents[node]
                if isinstance(parent, ast.Call):
                    self.assertIn(parent.func.id, ("len", "sorted"), (name, node.lineno))
                else:
                    self.assertIsInstance(parent, (ast.Assign, ast.Compare), (name, node.lineno))

    def test_errors(self):
        defined = {node.name for node in self.trees["errors"][1].body if isinstance(node, ast.ClassDef)}
        for name, node, _ in self.each():
            if isinstance(node, ast.ExceptHandler):
                self.assertIn(node.type.id, defined | {"KeyError"}, (name, node.lineno))
            if isinstance(node, ast.Raise) and node.exc is not None:
                self.assertIn(node.exc.func.id, defined | {"TypeError"}, (name, node.lineno))

    def test_double_underscore_methods(self):
        for name, (_, tree) in self.trees.items():
            for node in functions(tree):
                if node.name == "__len__":
                    self.assertEqual(len(node.body), 1)
                    self.assertEqual(node.body[0].value.func.id, "len")
                if node.name in ("__eq__", "__len__", "__add__", "__or__", "__and__", "__sub__", "__contains__"):
                    for part in ast.walk(node):
                        self.assertNotIsInstance(part, ast.AugAssign, (name, node.name))
                        if isinstance(part, ast.Attribute):
                            self.assertIsInstance(part.ctx, ast.Load, (name, node.name))

    def test_what_operators_run(self):
        """What an operator or a property runs changes nothing but what it made itself."""
        for name, node in self.run_by_operators():
            made = {part.targets[0].id for part in ast.walk(node) if isinstance(part, ast.Assign)
                    and isinstance(part.targets[0], ast.Name)
                    and (isinstance(part.value, (ast.List, ast.Dict, ast.ListComp))
                         or getattr(getattr(part.value, "func", None), "id", None) in ("list", "dict", "sorted"))}
            for part in ast.walk(node):
                where = (name, node.name, getattr(part, "lineno", 0))
                if isinstance(part, ast.Attribute) and node.name != "__init__":
                    self.assertIsInstance(part.ctx, ast.Load, where)
                if isinstance(part, ast.Subscript) and not isinstance(part.ctx, ast.Load):
                    self.assertIn(getattr(part.value, "id", None), made, where)
                if isinstance(part, ast.Call) and isinstance(part.func, ast.Attribute):
                    self.assertNotEqual(part.func.attr, "setting", where)
                    if part.func.attr in ("append", "extend", "insert", "pop", "update", "setdefault", "remove"):
                        self.assertIn(getattr(part.func.value, "id", None), made, where)
                if isinstance(part, ast.Call) and isinstance(part.func, ast.Name):
                    self.assertNotIn(part.func.id, {arg.arg for arg in node.args.args}, where)

    def run_by_operators(self):
        """All functions that operators, lengths and properties run, told apart by their names alone."""
        plain, methods, classes, queue = {}, {}, {}, []
        for name, (_, tree) in self.trees.items():
            for node in tree.body:
                if isinstance(node, ast.FunctionDef):
                    plain.setdefault(node.name, []).append((name, node))
                if isinstance(node, ast.ClassDef):
                    for part in node.body:
                        if not isinstance(part, ast.FunctionDef):
                            continue
                        if part.name == "__init__":
                            classes.setdefault(node.name, []).append((name, part))
                            continue
                        methods.setdefault(part.name, []).append((name, part))
                        is_operator = part.name.startswith("__") and part.name not in (
                            "__init__", "__call__", "__iter__", "__enter__", "__exit__", "__iand__", "__ior__",
                            "__setitem__")
                        is_property = [mark.id for mark in part.decorator_list] == ["property"]
                        if is_operator or is_property:
                            queue.append((name, part))
        found = []
        while queue:
            name, node = queue.pop()
            if (name, node) in found:
                continue
            found.append((name, node))
            for part in ast.walk(node):
                if isinstance(part, ast.Call) and isinstance(part.func, ast.Name):
                    queue.extend(plain.get(part.func.id, []) + classes.get(part.func.id, []))
                    if part.func.id == "cls":
                        queue.extend(row for rows in classes.values() for row in rows if row[0] == name)
                if isinstance(part, ast.Call) and isinstance(part.func, ast.Attribute):
                    queue.extend(methods.get(part.func.attr, []))
        return found

    def test_generators_have_names_of_their_own(self):
        names = [node.name for _, tree in self.trees.values() for node in functions(tree)]
        for _, node, parents in self.each():
            if isinstance(node, (ast.Yield, ast.YieldFrom)):
                while not isinstance(node, ast.FunctionDef):
                    node = parents[node]
                self.assertEqual(names.count(node.name), 1)


if __name__ == "__main__":
    unittest.main()
