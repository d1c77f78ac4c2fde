"""The package keeps to the plain part of Python that it is to be written in (as far as a look at the code tells)."""

import ast
import builtins
import os
import re
import unittest

FOLDER = os.path.join(os.path.dirname(os.path.dirname(os.path.abspath(__file__))), "textloops")
STATEMENTS = (
    ast.Assign, ast.AugAssign, ast.If, ast.While, ast.For, ast.Return, ast.Break, ast.Continue, ast.Pass, ast.Raise,
    ast.Assert, ast.Delete, ast.Expr, ast.FunctionDef, ast.ClassDef, ast.ImportFrom, ast.With,
)
CALLED = {
    "len", "range", "enumerate", "zip", "min", "max", "sum", "abs", "sorted", "reversed", "int", "str", "bool", "list",
    "tuple", "dict", "set", "isinstance", "ord", "repr", "any", "all", "divmod", "iter", "super", "property",
}
ERROR_CLASSES = {"ValueError", "Exception", "KeyError", "IndexError", "TypeError", "LookupError"}
DUNDERS = {"__init__", "__eq__", "__iter__", "__call__", "__repr__", "__str__", "__enter__", "__exit__"}
METHODS = set((
    "append clear copy count endswith extend find get index insert isalnum isalpha isdigit islower isspace isupper "
    "items join keys ljust lower lstrip partition pop remove replace reverse rfind rjust rpartition rsplit rstrip "
    "setdefault split splitlines startswith strip update upper values zfill bit_length add discard"
).split())
BARRED_NAMES = set((
    "register mro elements open input law version_info with_traceback add_note attrgetter breakpoint builtins compile "
    "copyright credits delattr dir eval exec exit gc getattr globals hasattr help id importlib license locals "
    "methodcaller os quit setattr type vars sys format deque"
).split())
BARRED_WORDS = set((
    "type typing typing_extensions enum Enum IntEnum StrEnum Flag IntFlag Generic Protocol ABC ABCMeta namedtuple "
    "NamedTuple TypedDict TYPE_CHECKING abstractmethod dataclass overload contextmanager _wall _WallAttr"
).split())
AT_ONCE = {"zip", "enumerate", "reversed", "set", "range"}
PLAIN = (ast.Constant, ast.Tuple, ast.List, ast.Dict)


def package_files():
    return sorted(name for name in os.listdir(FOLDER) if name != "__pycache__")


def source(name):
    with open(os.path.join(FOLDER, name), encoding="utf-8") as file:
        return file.read()


def parents_of(tree):
    return {child: node for node in ast.walk(tree) for child in ast.iter_child_nodes(node)}


def bound_names(function):
    """The names of parameters, local variables and nested functions."""
    names = set()
    for node in ast.walk(function):
        if isinstance(node, ast.arg):
            names.add(node.arg)
        elif isinstance(node, ast.Name) and not isinstance(node.ctx, ast.Load):
            names.add(node.id)
        elif isinstance(node, ast.FunctionDef) and node is not function:
            names.add(node.name)
    return names


class LanguageTest(unittest.TestCase):
    def setUp(self):
        self.trees = {name: ast.parse(source(name)) for name in package_files()}

    def nodes(self, *kinds):
        for name, tree in self.trees.items():
            for node in ast.walk(tree):
                if isinstance(node, kinds):
                    yield f"{name}:{getattr(node, 'lineno', 0)}", node

    def test_files(self):
        for name in package_files():
            self.assertRegex(name, r"^[a-z0-9_]+\.py$")
            text = source(name)
            self.assertRegex(text, r"^[ -~\n]*$", name)
            lines = text.split("\n")
            self.assertLess(len(lines), 400, name)
            self.assertLessEqual(max(map(len, lines)), 120, name)

    def test_imports(self):
        defined = {}
        for name, tree in self.trees.items():
            defined[name[:-3]] = {n.name for n in tree.body if isinstance(n, (ast.FunctionDef, ast.ClassDef))}
            defined[name[:-3]] |= {n.targets[0].id for n in tree.body if isinstance(n, ast.Assign)}
        imports = {name[:-3]: [] for name in self.trees}
        for where, node in self.nodes(ast.ImportFrom):
            if node.module == "math":
                self.assertFalse({alias.name for alias in node.names} - {"gcd", "lcm"}, where)
                continue
            package, module = node.module.split(".")
            self.assertEqual((package, node.level), ("textloops", 0), where)
            for alias in node.names:
                self.assertIn(alias.name, defined[module], where)
                self.assertIsNone(alias.asname, where)
            imports[where.split(".")[0]].append(module)
        done = set()
        while len(done) < len(imports):
            ready = {name for name, others in imports.items() if name not in done and done.issuperset(others)}
            self.assertTrue(ready, "files import from each other")
            done |= ready

    def test_what_is_imported_is_used(self):
        for name, tree in self.trees.items():
            used = {node.id for node in ast.walk(tree) if isinstance(node, ast.Name)}
            for node in tree.body:
                if isinstance(node, ast.ImportFrom):
                    self.assertFalse({alias.name for alias in node.names} - used, name)

    def test_module_level(self):
        for name, tree in self.trees.items():
            bound = []
            for at, node in enumerate(tree.body):
                self.assertIsInstance(node, (ast.Expr, ast.ImportFrom, ast.FunctionDef, ast.ClassDef, ast.Assign))
                if isinstance(node, ast.Expr):
                    self.assertEqual(at, 0, name)
                elif isinstance(node, ast.Assign):
                    self.assertIsInstance(node.value, PLAIN)
                    bound.append(node.targets[0].id)
                elif isinstance(node, ast.ImportFrom):
                    bound.extend(alias.name for alias in node.names)
                else:
                    bound.append(node.name)
            self.assertEqual(len(bound), len(set(bound)), name)

    def test_statements_and_expressions(self):
        for where, node in self.nodes(ast.stmt):
            self.assertIsInstance(node, STATEMENTS, where)
        barred = (ast.Div, ast.GeneratorExp, ast.NamedExpr, ast.AnnAssign, ast.Await, ast.MatMult)
        for where, node in self.nodes(*barred):
            self.fail(f"{where}: {node}")
        for where, node in self.nodes(ast.Pow):
            self.fail(where)
        for where, node in self.nodes(ast.Compare):
            for sign, value in zip(node.ops, node.comparators):
                if isinstance(sign, (ast.Is, ast.IsNot)):
                    self.assertTrue(isinstance(value, ast.Constant) and value.value in (None, True, False), where)

    def test_functions(self):
        for where, node in self.nodes(ast.FunctionDef):
            self.assertLessEqual(node.end_lineno - node.lineno + 1, 40, where)
            for decorator in node.decorator_list:
                self.assertEqual(ast.unparse(decorator), "property", where)
            if node.name.startswith("__"):
                self.assertIn(node.name, DUNDERS, where)
            for value in node.args.defaults + [d for d in node.args.kw_defaults if d is not None]:
                self.assertIsInstance(value, (ast.Constant, ast.Tuple), where)
        for where, node in self.nodes(ast.ClassDef):
            self.assertEqual(node.decorator_list, [], where)

    def test_names(self):
        for name, tree in self.trees.items():
            classes = {n.name for n in tree.body if isinstance(n, ast.ClassDef)}
            imported = {alias.name for n in tree.body if isinstance(n, ast.ImportFrom) for alias in n.names}
            for node in ast.walk(tree):
                if isinstance(node, ast.FunctionDef):
                    for bound in bound_names(node):
                        self.assertNotIn(bound, classes | imported | BARRED_NAMES, name)
                        self.assertFalse(hasattr(builtins, bound), f"{name}: {bound}")
                        self.assertRegex(bound, r"^(_|_?[a-z][a-z0-9_]*)$")
            words = set(re.findall(r"\w+", re.sub(r'""".*?"""|#.*', "", source(name), flags=re.S)))
            self.assertFalse(words & BARRED_WORDS, name)

    def test_calls(self):
        own = {node.name for _, node in self.nodes(ast.FunctionDef, ast.ClassDef)}
        for where, node in self.nodes(ast.Call):
            if isinstance(node.func, ast.Attribute):
                self.assertIn(node.func.attr, METHODS | own, where)
            elif isinstance(node.func, ast.Name) and hasattr(builtins, node.func.id):
                self.assertIn(node.func.id, CALLED | ERROR_CLASSES, where)
        for where, node in self.nodes(ast.Name):
            if hasattr(builtins, node.id):
                self.assertIn(node.id, CALLED | ERROR_CLASSES, where)

    def test_stars_in_calls(self):
        for where, node in self.nodes(ast.Call):
            starred = False
            for part in node.args:
                inner = part.value if isinstance(part, ast.Starred) else part
                starred = starred or isinstance(part, ast.Starred)
                while starred and isinstance(inner, ast.Attribute):
                    inner = inner.value
                if isinstance(part, ast.Starred):
                    self.assertIsInstance(inner, ast.Name, where)
                elif starred:
                    self.assertIsInstance(inner, (ast.Name, ast.Constant), where)
            self.assertFalse([keyword for keyword in node.keywords if keyword.arg is None], where)

    def test_no_stars_in_indexes_and_sets(self):
        for where, node in self.nodes(ast.Subscript, ast.Set):
            inner = node.slice if isinstance(node, ast.Subscript) else node
            self.assertFalse([part for part in ast.walk(inner) if isinstance(part, ast.Starred)], where)

    def test_things_iterated_at_once(self):
        for name, tree in self.trees.items():
            parents = parents_of(tree)
            for node in ast.walk(tree):
                called = isinstance(node, ast.Call) and isinstance(node.func, ast.Name) and node.func.id
                views = isinstance(node, ast.Call) and isinstance(node.func, ast.Attribute) and node.func.attr
                is_set = isinstance(node, (ast.Set, ast.SetComp)) or called == "set"
                if not is_set and called not in AT_ONCE and views not in ("items", "keys", "values"):
                    continue
                parent = parents[node]
                where = f"{name}:{node.lineno}"
                if is_set:
                    self.assertIsInstance(parent, ast.Call, where)
                    self.assertIn(parent.func.id, ("sorted", "len"), where)
                elif isinstance(parent, ast.Call):
                    self.assertIn(parent.func.id, ("list", "tuple", "dict", "sorted", "enumerate", "zip"), where)
                else:
                    self.assertIsInstance(parent, (ast.For, ast.comprehension), where)
                    self.assertIs(parent.iter, node, where)

    def test_generators_are_iterated_at_once(self):
        generators = set()
        for _, node in self.nodes(ast.FunctionDef):
            if any(isinstance(inner, (ast.Yield, ast.YieldFrom)) for inner in ast.walk(node)):
                self.assertNotIn(node.name, generators)
                generators.add(node.name)
        for name, tree in self.trees.items():
            parents = parents_of(tree)
            for node in ast.walk(tree):
                if isinstance(node, ast.Name) and node.id in generators:
                    call = parents[node]
                    self.assertTrue(isinstance(call, ast.Call) and call.func is node, f"{name}:{node.lineno}")
                    loop = parents[call]
                    self.assertTrue(isinstance(loop, ast.For) and loop.iter is call, f"{name}:{node.lineno}")

    def test_methods_as_values_are_read_off_names(self):
        methods = {
            inner.name for _, node in self.nodes(ast.ClassDef) for inner in node.body
            if isinstance(inner, ast.FunctionDef) and not inner.decorator_list
        }
        for name, tree in self.trees.items():
            parents = parents_of(tree)
            for node in ast.walk(tree):
                if isinstance(node, ast.Attribute) and node.attr in methods:
                    called = isinstance(parents[node], ast.Call) and parents[node].func is node
                    owner = node.value
                    while isinstance(owner, ast.Attribute):
                        owner = owner.value
                    self.assertTrue(called or isinstance(owner, ast.Name), f"{name}:{node.lineno}")

    def test_no_attribute_has_the_name_of_a_property(self):
        properties = {node.name for _, node in self.nodes(ast.FunctionDef) if node.decorator_list}
        for where, node in self.nodes(ast.Attribute):
            if isinstance(node.ctx, ast.Store):
                self.assertNotIn(node.attr, properties, where)

    def test_strings(self):
        for where, node in self.nodes(ast.Constant):
            self.assertNotIsInstance(node.value, (float, complex), where)
            if isinstance(node.value, str):
                self.assertNotIn("%", node.value, where)
                self.assertNotRegex(node.value, r"__|\._", where)
        for name in package_files():
            self.assertNotRegex(source(name), r"\\[^nt\\\"']", name)

    def test_attributes_that_are_read_are_assigned(self):
        assigned = {node.attr for _, node in self.nodes(ast.Attribute) if isinstance(node.ctx, ast.Store)}
        own = {node.name for _, node in self.nodes(ast.FunctionDef)}
        self.assertFalse(assigned & own & {"append", "items", "keys", "values", "pop", "update", "extend"})
        for where, node in self.nodes(ast.Attribute):
            self.assertIn(node.attr, assigned | own | METHODS, where)
        for where, node in self.nodes(ast.ClassDef):
            methods = [inner.name for inner in node.body if isinstance(inner, ast.FunctionDef)]
            fields = {
                inner.attr for inner in ast.walk(node)
                if isinstance(inner, ast.Attribute) and isinstance(inner.ctx, ast.Store)
            }
            self.assertEqual(len(methods), len(set(methods)), where)
            self.assertFalse(fields & set(methods), where)


if __name__ == "__main__":
    unittest.main()
