"""The package keeps to the small part of Python that it is written in, as far as a test can see it."""

import ast
import builtins
import pathlib
import re
import unittest

PACKAGE = pathlib.Path(__file__).resolve().parent.parent / "signlanes"
ALLOWED_BUILTINS = set("""len range enumerate zip min max sum abs sorted reversed int str bool bytes list tuple dict set
isinstance ord repr any all divmod pow getattr hasattr setattr iter next map Exception ValueError TypeError KeyError
IndexError LookupError ZeroDivisionError ArithmeticError OverflowError RuntimeError NotImplementedError AttributeError
StopIteration NotImplemented property staticmethod classmethod super""".split())
VALUE_METHODS = set("""append clear copy count endswith extend find get index insert isalnum isalpha isdigit islower
isspace isupper items join keys ljust lower lstrip partition pop remove replace reverse rfind rjust rpartition rsplit
rstrip setdefault split splitlines startswith strip update upper values zfill bit_length title capitalize swapcase
casefold center expandtabs removeprefix removesuffix rindex isascii isdecimal isnumeric istitle isidentifier
isprintable translate maketrans add discard""".split())
BARRED_NAMES = set("""register mro elements open input law version_info with_traceback add_note attrgetter breakpoint
builtins compile copyright credits delattr dir eval exec exit gc globals help id importlib license locals methodcaller
os quit type vars sys""".split())
BARRED_WORDS = set("""type typing typing_extensions enum Enum IntEnum StrEnum Flag IntFlag Generic Protocol ABC ABCMeta
namedtuple NamedTuple TypedDict TYPE_CHECKING abstractmethod""".split())
AT_ONCE = {"zip", "enumerate", "reversed", "range", "items", "keys", "values", "map"}
TAKERS = {"list", "tuple", "dict", "sorted", "sum", "any", "all", "enumerate", "zip", "min", "max"}
NODES_OUT = (ast.Global, ast.AsyncFunctionDef, ast.Await, ast.AsyncFor, ast.AsyncWith, ast.GeneratorExp, ast.Yield,
             ast.YieldFrom, ast.Try, ast.With, ast.Div, ast.MatMult, ast.Import)
METHODS_IN_CLASS = {"__init__", "__eq__", "__repr__", "__str__", "__len__"}
OPERATORS = {"__contains__", "__and__", "__or__", "__sub__"}
CHANGES = set("append clear extend insert pop remove reverse setdefault update add discard".split())
NEW_LISTS = {"list", "dict", "sorted", "set"}


def files():
    return sorted(PACKAGE.rglob("*"))


def trees():
    return [(path, ast.parse(path.read_text())) for path in files() if path.suffix == ".py"]


def functions_of(tree):
    return [node for node in ast.walk(tree) if isinstance(node, ast.FunctionDef)]


def defined(tree):
    """The names that a module binds itself."""
    names = [node.name for node in tree.body if isinstance(node, (ast.FunctionDef, ast.ClassDef))]
    return names + [node.targets[0].id for node in tree.body if isinstance(node, ast.Assign)]


def imports_of(tree):
    return [node for node in ast.walk(tree) if isinstance(node, ast.ImportFrom)]


def bound_in(function):
    """The parameters and local variables of a function."""
    args = function.args
    names = [arg.arg for arg in args.posonlyargs + args.args + args.kwonlyargs]
    return names + [node.id for node in ast.walk(function) if isinstance(node, ast.Name)
                    and isinstance(node.ctx, (ast.Store, ast.Del))]


def parents_of(tree):
    return {child: node for node in ast.walk(tree) for child in ast.iter_child_nodes(node)}


def called(node):
    """The bare name or the method's name of a call."""
    if not isinstance(node, ast.Call):
        return None
    return node.func.id if isinstance(node.func, ast.Name) else getattr(node.func, "attr", None)


class LanguageTest(unittest.TestCase):
    def test_files(self):
        for path in files():
            if "__pycache__" in path.parts:
                continue
            self.assertTrue(path.suffix == ".py" and re.fullmatch("[a-z0-9_]+", path.stem), path)
            text = path.read_text(encoding="ascii")
            self.assertTrue(all(" " <= sign <= "~" or sign == "\n" for sign in text), path)
            self.assertLessEqual(len(text.splitlines()), 399, path)
            self.assertLessEqual(max(map(len, text.splitlines())), 120, path)
            self.assertTrue(text.endswith("\n") and not text.endswith("\n\n"), path)
            self.assertNotIn(path.stem, ALLOWED_BUILTINS | BARRED_NAMES)
            self.assertIsNone(re.search(r"_wall|_WallAttr| \n", text), path)
        self.assertTrue((PACKAGE / "__init__.py").exists())

    def test_functions_are_small(self):
        for path, tree in trees():
            for node in functions_of(tree):
                self.assertLessEqual(node.end_lineno - node.lineno + 1, 40, (path.name, node.name))
                for decorator in node.decorator_list:
                    self.assertEqual(ast.unparse(decorator), "property", (path.name, node.name))
                    self.assertEqual(len(node.args.args), 1, (path.name, node.name))
                self.assertTrue(ast.get_docstring(node) or node.name.startswith("__"), (path.name, node.name))

    def test_module_level(self):
        for path, tree in trees():
            self.assertTrue(ast.get_docstring(tree), path.name)
            for node in tree.body[1:]:
                self.assertIsInstance(node, (ast.ImportFrom, ast.FunctionDef, ast.ClassDef, ast.Assign), path.name)
                if isinstance(node, ast.Assign):
                    self.check_plain_value(node, tree)
            names = defined(tree) + [alias.name for node in imports_of(tree) for alias in node.names]
            self.assertEqual(len(names), len(set(names)), path.name)

    def check_plain_value(self, assigned, tree):
        """Check that a value is written out, or is a table of functions that are defined above."""
        value = assigned.value
        if isinstance(value, ast.Dict) and any(isinstance(item, ast.Name) for item in value.values):
            above = [node.name for node in tree.body if isinstance(node, ast.FunctionDef)
                     and node.lineno < assigned.lineno]
            self.assertLessEqual({item.id for item in value.values}, set(above))
            for key in value.keys:
                ast.literal_eval(key)
        else:
            ast.literal_eval(value)

    def test_nodes(self):
        for path, tree in trees():
            for node in ast.walk(tree):
                where = (path.name, getattr(node, "lineno", 0))
                self.assertNotIsInstance(node, NODES_OUT, where)
                if isinstance(node, ast.Constant):
                    self.assertNotIsInstance(node.value, (float, complex, bytes), where)
                    if isinstance(node.value, str):
                        self.check_string(node, where)
                if isinstance(node, ast.Compare):
                    for operator, right in zip(node.ops, node.comparators):
                        if isinstance(operator, (ast.Is, ast.IsNot)):
                            self.assertTrue(isinstance(right, ast.Constant) and right.value in (None, True, False))
                if isinstance(node, ast.BinOp) and isinstance(node.op, ast.Pow):
                    self.assertIsInstance(node.right, ast.Constant, where)
                if isinstance(node, ast.ClassDef):
                    self.check_class(node, where)

    def check_string(self, node, where):
        self.assertNotIn("%", node.value, where)
        self.assertFalse(node.value.startswith("__") and node.value.endswith("__"), where)
        self.assertFalse(node.value.endswith(("._", ".__")), where)

    def check_class(self, node, where):
        self.assertEqual((node.decorator_list, node.keywords), ([], []), where)
        for item in node.body:
            self.assertTrue(isinstance(item, ast.FunctionDef) or isinstance(item, ast.Expr), where)
            if isinstance(item, ast.FunctionDef) and item.name.startswith("__"):
                self.assertIn(item.name, METHODS_IN_CLASS | OPERATORS, where)

    def test_imports(self):
        known = {path.stem: tree for path, tree in trees()}
        reached = {}
        for path, tree in trees():
            for node in imports_of(tree):
                if node.module == "math":
                    self.assertEqual([(alias.name, alias.asname) for alias in node.names], [("gcd", None)], path.name)
                    continue
                self.assertEqual((node.level, node.module.split(".")[0]), (0, "signlanes"), path.name)
                target = node.module.split(".")[1]
                reached.setdefault(path.stem, set()).add(target)
                for alias in node.names:
                    self.assertIsNone(alias.asname, path.name)
                    self.assertIn(alias.name, defined(known[target]), (path.name, target))
                    uses = re.findall(rf"\b{alias.name}\b", path.read_text())
                    self.assertGreater(len(uses), 1, (path.name, alias.name))
        for start in reached:
            seen, waiting = set(), list(reached[start])
            while waiting:
                name = waiting.pop()
                self.assertNotEqual(name, start)
                if name not in seen:
                    seen.add(name)
                    waiting.extend(reached.get(name, ()))

    def test_names(self):
        for path, tree in trees():
            taken = {alias.name for node in imports_of(tree) for alias in node.names}
            taken |= {node.name for node in tree.body if isinstance(node, ast.ClassDef)}
            for name in defined(tree):
                self.check_name(name, path.name)
            for function in functions_of(tree):
                for name in bound_in(function):
                    self.check_name(name, (path.name, function.name))
                    self.assertNotIn(name, taken, (path.name, function.name))
            for node in ast.walk(tree):
                if isinstance(node, ast.Name) and isinstance(node.ctx, ast.Load) and hasattr(builtins, node.id):
                    self.assertIn(node.id, ALLOWED_BUILTINS, path.name)
                if isinstance(node, ast.Name) and isinstance(node.ctx, ast.Load):
                    self.assertNotEqual(node.id, "_", path.name)

    def check_name(self, name, where):
        self.assertFalse(hasattr(builtins, name), (where, name))
        self.assertNotIn(name, BARRED_NAMES, where)
        self.assertFalse(name.startswith("__"), where)

    def test_barred_words(self):
        for path, tree in trees():
            strings = [node for node in ast.walk(tree)
                       if isinstance(node, ast.Constant) and isinstance(node.value, str)]
            docs = {ast.get_docstring(node, clean=False) for node in ast.walk(tree)
                    if isinstance(node, (ast.Module, ast.ClassDef, ast.FunctionDef))}
            words = [word for node in strings if node.value not in docs for word in re.findall(r"\w+", node.value)]
            words += [node.id for node in ast.walk(tree) if isinstance(node, ast.Name)]
            words += [node.attr for node in ast.walk(tree) if isinstance(node, ast.Attribute)]
            self.assertFalse(BARRED_WORDS & set(words), path.name)

    def test_methods(self):
        own = {node.name for _, tree in trees() for node in functions_of(tree)}
        stored = {node.attr for _, tree in trees() for node in ast.walk(tree)
                  if isinstance(node, ast.Attribute) and isinstance(node.ctx, ast.Store)}
        for path, tree in trees():
            calls = {node.func for node in ast.walk(tree) if isinstance(node, ast.Call)}
            for node in ast.walk(tree):
                if isinstance(node, ast.Attribute) and node in calls:
                    self.assertIn(node.attr, VALUE_METHODS | own, (path.name, node.lineno))
                elif isinstance(node, ast.Attribute):
                    self.assertIn(node.attr, stored, (path.name, node.lineno))
            for node in ast.walk(tree):
                if isinstance(node, ast.ClassDef):
                    methods = [item.name for item in node.body if isinstance(item, ast.FunctionDef)]
                    mine = {item.attr for item in ast.walk(node) if isinstance(item, ast.Attribute)
                            and isinstance(item.ctx, ast.Store)}
                    self.assertEqual(len(methods), len(set(methods)))
                    self.assertFalse(mine & set(methods), (path.name, node.name))
        barred = "items keys values pop update append clear extend insert remove reverse setdefault sort args".split()
        self.assertFalse(stored & set(barred))

    def test_calls(self):
        for path, tree in trees():
            parents = parents_of(tree)
            for node in ast.walk(tree):
                name, where = called(node), (path.name, getattr(node, "lineno", 0))
                if name is None:
                    continue
                keywords = {keyword.arg for keyword in node.keywords}
                if name in ("sorted", "min", "max"):
                    self.assertLessEqual(keywords, {"key", "reverse", "default"}, where)
                elif hasattr(builtins, name) or isinstance(node.func, ast.Attribute) and name in VALUE_METHODS:
                    self.assertEqual(keywords - {"start", "strict"}, set(), where)
                if name in AT_ONCE:
                    self.check_at_once(node, parents[node], where)
                if name in ("set", "frozenset"):
                    self.check_set(node, parents[node], where)
                self.assertFalse(any(isinstance(arg, ast.Starred) for arg in node.args), where)
            for node in ast.walk(tree):
                if isinstance(node, (ast.Set, ast.SetComp)):
                    self.check_set(node, parents[node], (path.name, node.lineno))

    def check_at_once(self, node, parent, where):
        if isinstance(parent, (ast.For, ast.comprehension)):
            self.assertIs(parent.iter, node, where)
        elif isinstance(parent, ast.Call):
            self.assertTrue(called(parent) in TAKERS or called(parent) == "reversed" and called(node) == "range"
                            or called(parent) == "len" and called(node) in ("items", "range"), where)
        elif isinstance(parent, ast.Compare):
            self.assertIs(parent.left is not node and isinstance(parent.ops[0], (ast.In, ast.NotIn)), True, where)
        else:
            self.fail(where)

    def check_set(self, node, parent, where):
        if isinstance(parent, ast.Call):
            self.assertIn(called(parent), ("sorted", "len"), where)
        elif isinstance(parent, ast.Compare):
            self.assertIsInstance(parent.ops[0], (ast.In, ast.NotIn, ast.Eq, ast.NotEq), where)
        else:
            self.assertIsInstance(parent, ast.Assign, where)
            self.assertTrue(len(parent.targets) == 1 and isinstance(parent.targets[0], ast.Name), where)

    def test_stored_sets(self):
        for path, tree in trees():
            parents = parents_of(tree)
            for function in functions_of(tree):
                names = [node.targets[0].id for node in ast.walk(function) if isinstance(node, ast.Assign)
                         and (called(node.value) == "set" or isinstance(node.value, (ast.Set, ast.SetComp)))]
                self.assertEqual(len(names), len(set(names)), (path.name, function.name))
                for node in ast.walk(function):
                    if isinstance(node, ast.Name) and node.id in names and isinstance(node.ctx, ast.Load):
                        parent = parents[node]
                        self.assertTrue(isinstance(parent, (ast.Compare, ast.If, ast.While))
                                        or isinstance(parent, ast.Attribute) and parent.attr in ("add", "discard")
                                        or called(parent) in ("len", "sorted"), (path.name, function.name, node.id))

    def test_loops_change_nothing_that_they_go_over(self):
        for path, tree in trees():
            for loop in ast.walk(tree):
                if isinstance(loop, ast.For):
                    over = loop.iter
                    if called(over) in ("enumerate", "reversed", "items", "keys", "values"):
                        over = over.args[0] if over.args else over.func.value
                    self.check_loop(ast.dump(over), loop.body, (path.name, loop.lineno))

    def check_loop(self, over, body, where):
        for statement in body:
            for node in ast.walk(statement):
                if isinstance(node, ast.Call) and isinstance(node.func, ast.Attribute) and node.func.attr in CHANGES:
                    self.assertNotEqual(ast.dump(node.func.value), over, where)
                if isinstance(node, ast.Subscript) and isinstance(node.ctx, (ast.Store, ast.Del)):
                    self.assertNotEqual(ast.dump(node.value).replace("Store()", "Load()"), over, where)

    def test_operators_change_nothing(self):
        known = {node.name: node for _, tree in trees() for node in functions_of(tree)}
        inits = {node.name: item for _, tree in trees() for node in tree.body if isinstance(node, ast.ClassDef)
                 for item in node.body if isinstance(item, ast.FunctionDef) and item.name == "__init__"}
        waiting = [node for _, tree in trees() for node in functions_of(tree)
                   if node.name in OPERATORS | {"__eq__"} or node.decorator_list]
        self.assertGreater(len(waiting), 6)
        seen = []
        while waiting:
            function = waiting.pop()
            if function not in seen:
                seen.append(function)
                self.check_changes_nothing(function)
                names = {called(node) for node in ast.walk(function)} - CHANGES
                waiting += [known[name] for name in names if name in known]
                waiting += [inits[name] for name in names if name in inits]
        self.assertIn(known["plain_machine"], seen)
        self.assertNotIn(known["put_loop"], seen)

    def check_changes_nothing(self, function):
        made, others = {}, {arg.arg for arg in function.args.args}
        for node in ast.walk(function):
            if isinstance(node, ast.Assign):
                for target in node.targets:
                    if isinstance(target, ast.Name):
                        made.setdefault(target.id, []).append(node.value)
                    elif isinstance(target, ast.Tuple):
                        values = node.value.elts if isinstance(node.value, ast.Tuple) else [None] * len(target.elts)
                        for item, value in zip(target.elts, values):
                            made.setdefault(item.id, []).append(value)
            if isinstance(node, (ast.For, ast.comprehension)):
                others |= {name.id for name in ast.walk(node.target) if isinstance(name, ast.Name)}
        own = {name for name, values in made.items() if name not in others and all(map(self.is_new, values))}
        objects = {name for name, values in made.items()
                   if name not in others and all(called(value) in ("WordSet", "Group") for value in values)}
        if function.name == "__init__":
            objects.add("self")
        for node in ast.walk(function):
            where = (function.name, getattr(node, "lineno", 0))
            if isinstance(node, ast.Attribute) and isinstance(node.ctx, (ast.Store, ast.Del)):
                self.assertIn(ast.unparse(node.value), objects, where)
            if isinstance(node, ast.Subscript) and isinstance(node.ctx, (ast.Store, ast.Del)):
                self.check_held(node.value, own, made, where)
            if called(node) in CHANGES and isinstance(node.func, ast.Attribute):
                self.check_held(node.func.value, own, made, where)
            if isinstance(node, ast.AugAssign):
                self.assertIsInstance(node.op, (ast.Add, ast.Sub, ast.FloorDiv), where)
                self.assertIsInstance(node.target, ast.Name, where)

    def check_held(self, held, own, made, where):
        """What is changed is a list of its own, or an item of a list all items of which are written as new lists."""
        root = self.root_of(held)
        self.assertIn(root, own, where)
        if isinstance(held, ast.Subscript):
            for value in made[root]:
                self.assertIsInstance(value, (ast.List, ast.ListComp, ast.Dict), where)
                items = [value.elt] if isinstance(value, ast.ListComp) else getattr(value, "elts", [])
                for item in items:
                    self.assertTrue(isinstance(item, (ast.List, ast.ListComp)) or called(item) == "list", where)

    def root_of(self, held):
        """The name of what an item, or an item of an item, is held in."""
        while isinstance(held, ast.Subscript) or called(held) == "setdefault":
            held = held.value if isinstance(held, ast.Subscript) else held.func.value
        return ast.unparse(held)

    def is_new(self, value):
        """Whether an expression makes a list, dict or set of its own."""
        return (isinstance(value, (ast.List, ast.ListComp, ast.Dict, ast.DictComp)) or called(value) in NEW_LISTS
                or isinstance(value, ast.BinOp) and (self.is_new(value.left) or self.is_new(value.right)))

    def test_lambdas_and_nested_functions_are_not_used(self):
        for path, tree in trees():
            for node in ast.walk(tree):
                self.assertNotIsInstance(node, ast.Lambda, path.name)
            for function in functions_of(tree):
                inner = [node for node in ast.walk(function) if isinstance(node, ast.FunctionDef)]
                self.assertEqual(inner, [function], (path.name, function.name))

    def test_comprehension_variables_are_new(self):
        for path, tree in trees():
            for function in functions_of(tree):
                outer = set()
                for node in ast.walk(function):
                    if isinstance(node, (ast.Assign, ast.For)):
                        targets = node.targets if isinstance(node, ast.Assign) else [node.target]
                        outer |= {name.id for target in targets for name in ast.walk(target)
                                  if isinstance(name, ast.Name) and isinstance(name.ctx, ast.Store)}
                outer |= {arg.arg for arg in function.args.args}
                inner = {name.id for node in ast.walk(function) if isinstance(node, ast.comprehension)
                         for name in ast.walk(node.target) if isinstance(name, ast.Name)} - {"_"}
                self.assertFalse(outer & inner, (path.name, function.name, outer & inner))


if __name__ == "__main__":
    unittest.main()
