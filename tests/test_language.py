"""The files of the package keep the subset of Python that the project allows."""

import ast
import builtins
import importlib
import inspect
import pathlib
import re
import unittest

FOLDER = pathlib.Path(__file__).resolve().parent.parent / "heirlines"
FILES = sorted(FOLDER.glob("*.py"))

BUILTINS = set("""len range enumerate zip min max sum abs sorted reversed int str bool bytes list tuple dict set frozenset
isinstance ord repr any all divmod iter next map super Exception ValueError TypeError KeyError IndexError LookupError
ZeroDivisionError ArithmeticError OverflowError RuntimeError NotImplementedError AttributeError StopIteration
NotImplemented""".split())
METHODS = set("""append clear copy count endswith extend find get index insert isalnum isalpha isdigit islower isspace
isupper items join keys ljust lower lstrip partition pop remove replace reverse rfind rjust rpartition rsplit rstrip
setdefault split splitlines startswith strip update upper values zfill bit_length title capitalize""".split())
LIBRARY = {"heapq": {"heappush", "heappop", "heapify", "heapreplace", "heappushpop"},
           "math": {"gcd", "lcm", "isqrt", "comb", "perm", "factorial"},
           "itertools": {"product", "combinations", "permutations"}}
BARRED = set("""register mro elements open input law version_info with_traceback add_note attrgetter breakpoint builtins
compile copyright credits delattr dir eval exec exit gc getattr globals hasattr help id importlib license locals
methodcaller os quit setattr type vars sys""".split())
WORDS = ("type", "typing", "typing_extensions", "enum", "Enum", "IntEnum", "StrEnum", "Flag", "IntFlag", "Generic",
         "Protocol", "ABC", "ABCMeta", "namedtuple", "NamedTuple", "TypedDict", "TYPE_CHECKING", "abstractmethod",
         "dataclass", "overload", "contextmanager", "_wall", "_WallAttr")
STATEMENTS = (ast.FunctionDef, ast.ClassDef, ast.Assign, ast.AugAssign, ast.If, ast.While, ast.For, ast.Return,
              ast.Break, ast.Continue, ast.Pass, ast.Raise, ast.Assert, ast.Delete, ast.Expr, ast.ImportFrom, ast.Try,
              ast.With)
DOUBLE = {"__init__", "__eq__", "__repr__", "__str__", "__len__", "__enter__", "__exit__"}
VIEWS = ("zip", "enumerate", "reversed", "range")
TAKERS = ("list", "tuple", "dict", "sorted", "sum", "any", "all", "enumerate", "zip", "min", "max")


def walk(tree):
    for node in ast.walk(tree):
        for child in ast.iter_child_nodes(node):
            child.parent = node
    return list(ast.walk(tree))


def bound_names(function):
    """The names that a function binds itself: parameters, targets, nested ones."""
    names = {argument.arg for argument in ast.walk(function.args) if isinstance(argument, ast.arg)}
    for node in ast.walk(function):
        if isinstance(node, ast.Name) and isinstance(node.ctx, ast.Store):
            names.add(node.id)
        elif isinstance(node, ast.arg):
            names.add(node.arg)
        elif isinstance(node, ast.FunctionDef) and node is not function:
            names.add(node.name)
    return names


class Language(unittest.TestCase):

    @classmethod
    def setUpClass(cls):
        cls.texts = {path.name: path.read_text(encoding="utf-8") for path in FILES}
        cls.trees = {name: ast.parse(text) for name, text in cls.texts.items()}
        cls.nodes = {name: walk(tree) for name, tree in cls.trees.items()}
        cls.functions = [(name, node) for name, nodes in cls.nodes.items() for node in nodes
                         if isinstance(node, ast.FunctionDef)]
        cls.classes = {node.name: node for nodes in cls.nodes.values() for node in nodes
                       if isinstance(node, ast.ClassDef)}
        cls.methods = {node.name for made in cls.classes.values() for node in made.body
                       if isinstance(node, ast.FunctionDef)}

    def every(self, *kinds):
        for name, nodes in self.nodes.items():
            for node in nodes:
                if isinstance(node, kinds):
                    yield name, node

    def where(self, name, node):
        return f"{name}:{getattr(node, 'lineno', '?')}"

    def test_l1_l14_files(self):
        others = [path.name for path in FOLDER.iterdir() if path.suffix != ".py" and path.name != "__pycache__"]
        self.assertEqual(others, [])
        self.assertLessEqual(len(FILES), 100)
        self.assertIn("__init__.py", self.texts)
        for name in self.texts:
            self.assertRegex(name, r"^[a-z_]+\.py$")
            self.assertFalse(hasattr(builtins, name[:-3]) and name != "__init__.py", name)

    def test_l10_sizes(self):
        for name, text in self.texts.items():
            lines = text.split("\n")
            self.assertLessEqual(len(lines) - 1, 399, name)
            for number, line in enumerate(lines):
                self.assertLessEqual(len(line), 120, f"{name}:{number + 1}")
                self.assertNotIn("\t", line)
        for name, function in self.functions:
            self.assertLessEqual(function.end_lineno - function.lineno + 1, 40, self.where(name, function))

    def test_l14_characters(self):
        for name, text in self.texts.items():
            self.assertTrue(all(char == "\n" or " " <= char <= "~" for char in text), name)

    def test_l2_l16_imports(self):
        edges = {name: set() for name in self.texts}
        for name, node in self.every(ast.Import, ast.ImportFrom):
            self.assertIsInstance(node, ast.ImportFrom, self.where(name, node))
            self.assertIsInstance(node.parent, ast.Module)
            self.assertEqual(node.level, 0)
            self.assertTrue(all(alias.asname is None and alias.name != "*" for alias in node.names))
            if node.module in LIBRARY:
                self.assertTrue({alias.name for alias in node.names} <= LIBRARY[node.module])
                continue
            package, _, module = node.module.partition(".")
            self.assertEqual(package, "heirlines", self.where(name, node))
            edges[name].add(module + ".py")
            defined = {one.name for one in self.trees[module + ".py"].body
                       if isinstance(one, (ast.FunctionDef, ast.ClassDef))}
            defined |= {target.id for one in self.trees[module + ".py"].body if isinstance(one, ast.Assign)
                        for target in one.targets}
            for alias in node.names:
                self.assertIn(alias.name, defined, self.where(name, node))
        left = dict(edges)
        while left:
            free = [name for name, needs in left.items() if not needs & set(left)]
            self.assertTrue(free, f"files that import each other: {sorted(left)}")
            for name in free:
                del left[name]

    def test_imports_are_used(self):
        for name, nodes in self.nodes.items():
            used = {node.id for node in nodes if isinstance(node, ast.Name)}
            for node in nodes:
                if isinstance(node, ast.ImportFrom):
                    for alias in node.names:
                        self.assertIn(alias.name, used, self.where(name, node))

    def test_functions_are_used_or_listed(self):
        from tests.test_interface import LISTED, METHODS_LISTED
        listed = {text.partition("(")[0] for texts in LISTED.values() for text in texts} | set(METHODS_LISTED)
        used = {node.id for _, node in self.every(ast.Name)} | {node.attr for _, node in self.every(ast.Attribute)}
        for name, function in self.functions:
            self.assertTrue(function.name in used | listed | DOUBLE, self.where(name, function))

    def test_l2_library_calls(self):
        names = set().union(*LIBRARY.values())
        for name, node in self.every(ast.Name):
            if node.id in names and isinstance(node.ctx, ast.Load):
                self.assertIsInstance(node.parent, ast.Call, self.where(name, node))
                self.assertIs(node.parent.func, node)
                self.assertEqual(node.parent.keywords, [])

    def test_l3_module_level(self):
        for name, tree in self.trees.items():
            for place, node in enumerate(tree.body):
                if place == 0 and isinstance(node, ast.Expr):
                    self.assertIsInstance(node.value.value, str)
                    continue
                self.assertIsInstance(node, (ast.ImportFrom, ast.FunctionDef, ast.ClassDef, ast.Assign),
                                      self.where(name, node))
                if isinstance(node, ast.Assign):
                    self.assertEqual([type(target) for target in node.targets], [ast.Name])
                    for part in ast.walk(node.value):
                        self.assertNotIsInstance(part, (ast.Call, ast.Lambda, ast.Set, ast.ListComp, ast.Name))

    def test_l4_l5_functions_and_classes(self):
        for name, function in self.functions:
            self.assertEqual(function.decorator_list, [], self.where(name, function))
            for default in function.args.defaults + [one for one in function.args.kw_defaults if one]:
                for part in ast.walk(default):
                    self.assertIsInstance(part, (ast.Constant, ast.Tuple, ast.Load, ast.UnaryOp, ast.USub))
            self.assertIsNone(function.returns)
            self.assertTrue(all(argument.annotation is None for argument in function.args.args))
            if function.name.startswith("__"):
                self.assertIn(function.name, DOUBLE)
            if isinstance(function.parent, ast.ClassDef) and function.name == "__init__":
                for part in ast.walk(function):
                    self.assertNotIsInstance(part, ast.Return)
        for made in self.classes.values():
            self.assertEqual(made.decorator_list, [])
            self.assertIsInstance(made.parent, ast.Module)
            names = [node.name for node in made.body if isinstance(node, ast.FunctionDef)]
            self.assertEqual(len(set(names)), len(names))
            attributes = {part.attr for part in ast.walk(made) if isinstance(part, ast.Attribute)
                          and isinstance(part.ctx, ast.Store)}
            self.assertFalse(attributes & set(names), made.name)

    def test_l6_statements(self):
        for name, node in self.every(ast.stmt):
            self.assertIsInstance(node, STATEMENTS, self.where(name, node))

    def test_l7_values(self):
        barred = (ast.GeneratorExp, ast.Set, ast.SetComp, ast.Yield, ast.YieldFrom, ast.Await, ast.NamedExpr, ast.Div,
                  ast.MatMult, ast.Starred)
        for name, node in self.every(ast.expr, ast.operator):
            self.assertNotIsInstance(node, barred, self.where(name, node))
        for name, node in self.every(ast.Constant):
            self.assertIsInstance(node.value, (int, str, type(None)), self.where(name, node))
            if isinstance(node.value, str):
                self.assertNotIn("%", node.value)
                self.assertNotIn("\\", node.value)
        for name, node in self.every(ast.BinOp):
            if isinstance(node.op, ast.Pow):
                self.assertIsInstance(node.right, ast.Constant, self.where(name, node))
                self.assertLessEqual(node.right.value, 64)
            if isinstance(node.op, ast.Mod):
                self.assertNotIsInstance(node.left, ast.Constant, self.where(name, node))

    def test_l8_names(self):
        for name, tree in self.trees.items():
            own = set()
            for node in tree.body:
                if isinstance(node, (ast.FunctionDef, ast.ClassDef)):
                    own.add(node.name)
                elif isinstance(node, ast.Assign):
                    own.add(node.targets[0].id)
                elif isinstance(node, ast.ImportFrom):
                    own |= {alias.name for alias in node.names}
            local = set()
            for node in ast.walk(tree):
                if isinstance(node, ast.FunctionDef):
                    local |= bound_names(node)
            for node in ast.walk(tree):
                if isinstance(node, ast.Name) and isinstance(node.ctx, ast.Load):
                    self.assertIn(node.id, own | local | BUILTINS, self.where(name, node))

    def test_l12_l15_l17_names(self):
        for name, text in self.texts.items():
            tree = self.trees[name]
            docs = []
            for node in ast.walk(tree):
                if isinstance(node, (ast.Module, ast.FunctionDef, ast.ClassDef)) and ast.get_docstring(node):
                    docs.append(node.body[0])
            lines = text.split("\n")
            for doc in docs:
                for number in range(doc.lineno - 1, doc.end_lineno):
                    lines[number] = ""
            bare = "\n".join(line.partition("#")[0] for line in lines)
            for word in WORDS:
                self.assertIsNone(re.search(r"\b" + word + r"\b", bare), f"{name}: {word}")
            imported = {alias.name for node in tree.body if isinstance(node, ast.ImportFrom) for alias in node.names}
            made = {node.name for node in tree.body if isinstance(node, ast.ClassDef)}
            for node in ast.walk(tree):
                if isinstance(node, ast.FunctionDef):
                    names = bound_names(node)
                    self.assertFalse(names & (imported | made), f"{name}: {names & (imported | made)}")
                    for one in names | {node.name}:
                        self.assertNotIn(one, BARRED, name)
                        self.assertRegex(one, r"^(_|[A-Za-z][A-Za-z0-9_]*|__[a-z]+__)$")
                        if not isinstance(node.parent, ast.ClassDef) or one != node.name:
                            self.assertFalse(hasattr(builtins, one), f"{name}: {one}")
                elif isinstance(node, ast.Attribute):
                    self.assertNotIn(node.attr, ("format", "format_map", "mro", "sort", "args"), name)

    def test_l15_one_binding(self):
        for name, tree in self.trees.items():
            bound = []
            for node in tree.body:
                if isinstance(node, (ast.FunctionDef, ast.ClassDef)):
                    bound.append(node.name)
                elif isinstance(node, ast.Assign):
                    bound.append(node.targets[0].id)
                elif isinstance(node, ast.ImportFrom):
                    bound += [alias.name for alias in node.names]
            self.assertEqual(len(set(bound)), len(bound), name)

    def test_l18_attributes(self):
        assigned = {node.attr for _, node in self.every(ast.Attribute) if isinstance(node.ctx, ast.Store)}
        for name, node in self.every(ast.Attribute):
            if isinstance(node.ctx, ast.Load):
                self.assertIn(node.attr, assigned | self.methods | METHODS, self.where(name, node))

    def test_l19_errors(self):
        for name, node in self.every(ast.Raise):
            raised = node.exc.func if isinstance(node.exc, ast.Call) else node.exc
            self.assertIsInstance(raised, ast.Name, self.where(name, node))

    def test_l19_own_errors_alone_are_caught(self):
        for name, node in self.every(ast.Try):
            self.assertEqual(node.finalbody, [], self.where(name, node))
            for handler in node.handlers:
                self.assertIsInstance(handler.type, ast.Name, self.where(name, node))
                self.assertIn(handler.type.id, self.classes)

    def test_l6_exits_are_plain(self):
        for name, function in self.functions:
            if function.name == "__exit__":
                for part in function.body:
                    if isinstance(part, ast.Expr):
                        continue
                    self.assertIsInstance(part, ast.Assign, self.where(name, part))
                    self.assertIsInstance(part.targets[0], ast.Attribute)
                    self.assertIsInstance(part.value, (ast.Attribute, ast.Name))

    def test_class_names_are_unlike(self):
        names = [node.name for _, node in self.every(ast.ClassDef)]
        self.assertEqual(len(set(names)), len(names))

    def test_l20_is(self):
        for name, node in self.every(ast.Compare):
            for operator, side in zip(node.ops, node.comparators):
                if isinstance(operator, (ast.Is, ast.IsNot)):
                    self.assertIsInstance(side, ast.Constant, self.where(name, node))
                    self.assertIn(side.value, (None, True, False))

    def test_l22_calls_pass_what_is_taken(self):
        for path in FILES:
            module = importlib.import_module("heirlines." + path.stem) if path.stem != "__init__" else None
            for node in self.nodes[path.name]:
                if module and isinstance(node, ast.Call) and isinstance(node.func, ast.Name):
                    function = getattr(module, node.func.id, None)
                    if inspect.isfunction(function):
                        named = {keyword.arg: 0 for keyword in node.keywords}
                        inspect.signature(function).bind(*node.args, **named)

    def test_l23_views_are_iterated_at_once(self):
        for name, node in self.every(ast.Call):
            is_view = isinstance(node.func, ast.Name) and node.func.id in VIEWS
            is_view = is_view or (isinstance(node.func, ast.Attribute) and node.func.attr in ("items", "keys",
                                                                                              "values"))
            if not is_view:
                continue
            parent = node.parent
            if isinstance(parent, (ast.For, ast.comprehension)):
                self.assertIs(parent.iter, node, self.where(name, node))
            else:
                self.assertIsInstance(parent, ast.Call, self.where(name, node))
                known = TAKERS + (("reversed",) if node.func.id == "range" else ()) \
                    if isinstance(node.func, ast.Name) else TAKERS
                self.assertIn(parent.func.id, known, self.where(name, node))

    def test_l23_what_is_iterated_is_not_changed(self):
        changing = {"append", "pop", "clear", "extend", "insert", "remove", "setdefault", "update"}
        for name, node in self.every(ast.For):
            iterated = {ast.unparse(part) for part in ast.walk(node.iter)
                        if isinstance(part, (ast.Name, ast.Attribute, ast.Subscript))}
            if isinstance(node.iter, ast.Call) and isinstance(node.iter.func, ast.Name) and node.iter.func.id == "list":
                continue
            for part in node.body:
                for one in ast.walk(part):
                    if isinstance(one, ast.Call) and isinstance(one.func, ast.Attribute) and one.func.attr in changing:
                        self.assertNotIn(ast.unparse(one.func.value), iterated, self.where(name, one))
                    if isinstance(one, ast.Subscript) and isinstance(one.ctx, ast.Store):
                        self.assertNotIn(ast.unparse(one.value), iterated, self.where(name, one))
                    if isinstance(one, ast.Name) and isinstance(one.ctx, ast.Store):
                        self.assertNotIn(one.id, iterated, self.where(name, one))

    def test_l25_methods(self):
        for name, node in self.every(ast.Call):
            if isinstance(node.func, ast.Attribute):
                self.assertIn(node.func.attr, METHODS | self.methods | {"__init__"}, self.where(name, node))
                if node.func.attr in METHODS - self.methods:
                    self.assertEqual(node.keywords, [], self.where(name, node))

    def test_l8_nothing_is_kept_as_a_value(self):
        for name, node in self.every(ast.Name):
            if node.id in BUILTINS and isinstance(node.ctx, ast.Load) and node.id[0].islower():
                parent = node.parent
                is_called = isinstance(parent, ast.Call) and parent.func is node
                is_tested = isinstance(parent, ast.Call) and getattr(parent.func, "id", "") == "isinstance"
                self.assertTrue(is_called or is_tested, self.where(name, node))


if __name__ == "__main__":
    unittest.main()
