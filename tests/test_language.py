"""The rules of LANGUAGE.md that can be seen in the files of the package, as narrowly as it uses the language."""

import ast
import builtins
import pathlib
import re
import tokenize
import unittest

PACKAGE = pathlib.Path(__file__).resolve().parent.parent / "allbids"
FILES = sorted(PACKAGE.rglob("*.py"))

LIBRARY = {"math": {"gcd", "lcm", "isqrt", "comb", "perm", "factorial"},
           "itertools": {"product", "combinations", "permutations"},
           "heapq": {"heappush", "heappop", "heapify", "heapreplace", "heappushpop"}}
BUILTINS = set("""len range enumerate zip min max sum abs sorted reversed int str bool bytes list tuple dict set
    frozenset isinstance ord repr any all divmod getattr hasattr setattr Exception ValueError TypeError
    KeyError IndexError
    LookupError ZeroDivisionError ArithmeticError OverflowError RuntimeError NotImplementedError AttributeError
    StopIteration NotImplemented""".split())
KEYWORDS = {"sorted": {"key", "reverse"}, "min": {"key", "default"}, "max": {"key", "default"}, "sum": {"start"},
            "enumerate": {"start"}, "zip": {"strict"}}
METHODS = set("""append clear copy count endswith extend find get index insert isalnum isalpha isdigit islower isspace
    isupper items join keys ljust lower lstrip partition pop remove replace reverse rfind rjust rpartition rsplit rstrip
    setdefault split splitlines startswith strip update upper values zfill bit_length""".split())
BARRED_NAMES = set("register mro elements open input law version_info with_traceback add_note".split())
BARRED_WORDS = set("""type typing typing_extensions enum Enum IntEnum StrEnum Flag IntFlag Generic Protocol ABC ABCMeta
    namedtuple NamedTuple TypedDict TYPE_CHECKING abstractmethod""".split())
DOUBLES = set("""__init__ __eq__ __repr__ __str__ __len__ __enter__ __exit__ __call__ __iter__ __lt__ __le__ __gt__
    __ge__ __ne__ __add__ __sub__ __mul__ __radd__ __rsub__ __rmul__ __neg__ __pos__ __bool__ __contains__""".split())
NODES = (ast.AsyncFunctionDef, ast.AsyncFor, ast.AsyncWith, ast.Await, ast.Global, ast.Nonlocal, ast.GeneratorExp,
         ast.Yield, ast.YieldFrom, ast.Lambda, ast.AnnAssign, ast.Import, ast.MatMult, ast.Div, ast.Delete, ast.With,
         ast.NamedExpr)
ON_THE_SPOT = {"range", "zip", "enumerate", "reversed"}
VIEWS = {"items", "keys", "values"}
TAKERS = {"list", "tuple", "dict", "sorted", "sum", "any", "all", "enumerate", "zip"}
OPERATORS = {"__add__", "__neg__", "__mul__", "__rmul__", "__sub__", "__eq__", "__repr__", "__str__", "__len__"}


def linked(tree):
    """Gives each node its parent."""
    for node in ast.walk(tree):
        for child in ast.iter_child_nodes(node):
            child.parent = node
    return tree


TREES = {path: linked(ast.parse(path.read_text(encoding="ascii"))) for path in FILES}
FUNCTIONS = {node.name: node for tree in TREES.values() for node in ast.walk(tree)
             if isinstance(node, ast.FunctionDef)}
CLASSES = {node.name: node for tree in TREES.values() for node in ast.walk(tree) if isinstance(node, ast.ClassDef)}


def module_of(path):
    return "allbids." + path.stem if path.stem != "__init__" else "allbids"


def defined(tree):
    """The functions, classes and values of a file."""
    names = [node.name for node in tree.body if isinstance(node, (ast.FunctionDef, ast.ClassDef))]
    for node in tree.body:
        if isinstance(node, ast.Assign):
            names.extend(target.id for target in node.targets)
    return names


def stored(tree):
    """All names that are bound in a file otherwise than by an import."""
    names = [(node.id, node) for node in ast.walk(tree) if isinstance(node, ast.Name)
             and not isinstance(node.ctx, ast.Load)]
    names += [(node.arg, node) for node in ast.walk(tree) if isinstance(node, ast.arg)]
    names += [(node.name, node) for node in ast.walk(tree)
              if isinstance(node, (ast.FunctionDef, ast.ClassDef, ast.ExceptHandler)) and node.name]
    return names


def called(node):
    """The name that a call calls, if it is a bare one."""
    return node.func.id if isinstance(node, ast.Call) and isinstance(node.func, ast.Name) else None


def is_iterated(node):
    """Whether a node is what a loop or comprehension iterates over."""
    return isinstance(node.parent, (ast.For, ast.comprehension)) and node.parent.iter is node


def is_set(node):
    return isinstance(node, (ast.Set, ast.SetComp)) or called(node) in ("set", "frozenset")


class Language(unittest.TestCase):
    def each(self, *kinds):
        for path, tree in TREES.items():
            for node in ast.walk(tree):
                if isinstance(node, kinds):
                    yield f"{path.name}:{getattr(node, 'lineno', 0)}", node

    def test_files(self):
        for path in PACKAGE.rglob("*"):
            if "__pycache__" not in path.parts:
                self.assertRegex(path.name, r"^[a-z0-9_]+\.py$")
        for path in FILES:
            text = path.read_text(encoding="ascii")
            self.assertRegex(text, r"^[ -~\n]*$", path.name)
            lines = text.split("\n")
            self.assertTrue(len(lines) <= 399, path.name)
            self.assertTrue(max(map(len, lines)) <= 120, path.name)
            self.assertNotIn("_wall", text, path.name)

    def test_module_level(self):
        for path, tree in TREES.items():
            self.assertIsInstance(tree.body[0].value, ast.Constant)
            rest = tree.body[1:]
            while rest and isinstance(rest[0], ast.ImportFrom):
                rest = rest[1:]
            for node in rest:
                self.assertIsInstance(node, (ast.FunctionDef, ast.ClassDef, ast.Assign), path.name)
                if isinstance(node, ast.Assign):
                    self.assertEqual([target.__class__ for target in node.targets], [ast.Name])
                    ast.literal_eval(node.value)
            names = defined(tree) + [name.name for node in tree.body if isinstance(node, ast.ImportFrom)
                                     for name in node.names]
            self.assertEqual(len(names), len(set(names)), path.name)

    def test_imports(self):
        homes = {module_of(path): defined(tree) for path, tree in TREES.items()}
        links = {}
        for path, tree in TREES.items():
            links[module_of(path)] = []
            used = {node.id for node in ast.walk(tree) if isinstance(node, ast.Name)}
            for node in ast.walk(tree):
                if isinstance(node, ast.ImportFrom):
                    self.assertEqual(node.level, 0)
                    for name in node.names:
                        self.assertIsNone(name.asname)
                        self.assertIn(name.name, LIBRARY.get(node.module, homes.get(node.module, ())), path.name)
                        self.assertIn(name.name, used, path.name)
                    if node.module in homes:
                        links[module_of(path)].append(node.module)
        while links:
            free = [module for module in links if not set(links[module]) & set(links)]
            self.assertTrue(free, "files that import each other")
            links = {module: links[module] for module in links if module not in free}

    def test_nodes(self):
        for place, node in self.each(*NODES):
            self.fail(f"{place}: {node.__class__.__name__}")
        for place, node in self.each(ast.FunctionDef):
            self.assertTrue(node.end_lineno - node.lineno < 40, place)
            self.assertEqual(node.decorator_list, [], place)
            self.assertIsNone(node.returns, place)
            self.assertIsInstance(node.parent, (ast.Module, ast.ClassDef), place)
            self.assertIsNone(node.args.vararg or node.args.kwarg, place)
        for place, node in self.each(ast.ClassDef):
            self.assertIsInstance(node.parent, ast.Module, place)
            for part in node.body:
                self.assertIsInstance(part, (ast.FunctionDef, ast.Expr), place)
        for place, node in self.each(ast.arg):
            self.assertIsNone(node.annotation, place)
        for place, node in self.each(ast.Compare):
            for sign, side in zip(node.ops, node.comparators):
                if isinstance(sign, (ast.Is, ast.IsNot)):
                    self.assertIn(getattr(side, "value", 0), (None, True, False), place)
        for place, node in self.each(ast.Pow):
            self.assertIn(getattr(node.parent.right, "value", -1), range(65), place)

    def test_constants(self):
        for place, node in self.each(ast.Constant):
            self.assertFalse(isinstance(node.value, (float, complex, bytes)), place)
            if isinstance(node.value, str):
                self.assertNotIn("%", node.value, place)
                self.assertNotIn("__", node.value, place)
        for path in FILES:
            with open(path, encoding="ascii") as file:
                for token in tokenize.generate_tokens(file.readline):
                    if token.type == tokenize.STRING:
                        self.assertEqual(set(re.findall(r"\\(.)", token.string)) - set("nt\\'\""), set(), path.name)
                    if token.type == tokenize.NAME:
                        self.assertNotIn(token.string, BARRED_WORDS | BARRED_NAMES, path.name)
                    if token.type == tokenize.STRING and not token.string.startswith('"""'):
                        self.assertFalse(set(re.findall(r"\w+", token.string)) & BARRED_WORDS, path.name)

    def test_names(self):
        for path, tree in TREES.items():
            imported = {name.name for node in ast.walk(tree) if isinstance(node, ast.ImportFrom) for name in node.names}
            classes = {node.name for node in tree.body if isinstance(node, ast.ClassDef)}
            for name, node in stored(tree):
                place = f"{path.name}:{node.lineno} {name}"
                method = isinstance(node, ast.FunctionDef) and isinstance(node.parent, ast.ClassDef)
                self.assertFalse(hasattr(builtins, name) and not method, place)
                self.assertNotIn(name, imported, place)
                self.assertFalse(name in classes and not isinstance(node, ast.ClassDef), place)
                self.assertTrue(not name.startswith("_") or name in DOUBLES | {"_"}, place)
        for place, node in self.each(ast.Name):
            if isinstance(node.ctx, ast.Load):
                self.assertNotEqual(node.id, "_", place)
                self.assertFalse(hasattr(builtins, node.id) and node.id not in BUILTINS, f"{place} {node.id}")

    def test_calls(self):
        own = {node.name for name in CLASSES for node in CLASSES[name].body if isinstance(node, ast.FunctionDef)}
        for place, node in self.each(ast.Call):
            self.assertFalse(any(isinstance(part, ast.Starred) for part in node.args), place)
            if isinstance(node.func, ast.Attribute):
                self.assertIn(node.func.attr, METHODS | own, place)
                self.assertEqual(node.keywords, [], place)
            elif called(node) in BUILTINS:
                self.assertTrue({word.arg for word in node.keywords} <= KEYWORDS.get(called(node), set()), place)
        for place, node in self.each(ast.Name):
            if node.id in BUILTINS - {"ValueError", "NotImplemented"} and not isinstance(node.parent, ast.Call):
                inside = isinstance(node.parent, ast.Tuple) and called(node.parent.parent) == "isinstance"
                self.assertTrue(inside, f"{place} {node.id}")

    def test_what_is_iterated_on_the_spot(self):
        for place, node in self.each(ast.Call):
            view = isinstance(node.func, ast.Attribute) and node.func.attr in VIEWS
            if called(node) in ON_THE_SPOT or view:
                above = node.parent
                fine = is_iterated(node) or called(above) in TAKERS and above.args[0] is node
                fine = fine or called(above) in ("min", "max") and len(above.args) == 1 and not above.keywords
                kept = called(node) == "range" and isinstance(above, ast.Assign)
                self.assertTrue(fine or kept, place)

    def test_sets(self):
        for place, node in self.each(ast.Set, ast.SetComp, ast.Call):
            if is_set(node):
                above = node.parent
                fine = called(above) in ("sorted", "len") or isinstance(above, ast.Compare)
                self.assertTrue(fine or isinstance(above, ast.Assign), place)

    def test_errors(self):
        for place, node in self.each(ast.Raise):
            self.assertIn(called(node.exc), CLASSES, place)
            self.assertIsNone(node.cause, place)
        for place, node in self.each(ast.ExceptHandler):
            self.assertIn(node.type.id, CLASSES, place)

    def test_ends_of_blocks(self):
        """What stands in a finally or in the method that ends a block assigns an attribute, and does nothing else."""
        ends = [part for _, node in self.each(ast.Try) for part in node.finalbody]
        ends += [part for _, node in self.each(ast.FunctionDef) if node.name == "__exit__" for part in node.body]
        for node in ends:
            self.assertIsInstance(node, ast.Assign)
            self.assertEqual([target.__class__ for target in node.targets], [ast.Attribute])
            self.assertIsInstance(node.value, (ast.Name, ast.Attribute))

    def test_operators_change_nothing(self):
        """No += but of literals in what an operator runs."""
        ahead = [node for name in CLASSES for node in CLASSES[name].body
                 if isinstance(node, ast.FunctionDef) and node.name in OPERATORS]
        seen = set()
        while ahead:
            node = ahead.pop()
            for part in ast.walk(node):
                if isinstance(part, ast.AugAssign):
                    self.assertIsInstance(part.value, ast.Constant, f"{node.name}: {part.lineno}")
                for found in [FUNCTIONS.get(called(part)), *getattr(CLASSES.get(called(part)), "body", [])]:
                    if isinstance(found, ast.FunctionDef) and found not in seen:
                        if found in FUNCTIONS.values() and found.name == called(part) or found.name == "__init__":
                            seen.add(found)
                            ahead.append(found)


if __name__ == "__main__":
    unittest.main()
