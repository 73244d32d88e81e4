"""The bounds of the language that the package keeps to, as far as a short test sees them."""

import ast
import builtins
import io
import os
import re
import tokenize
import unittest

PACKAGE = os.path.join(os.path.dirname(os.path.dirname(os.path.abspath(__file__))), "branchsheets")
BEHIND = ("math",)

# The methods of builtin values that the package may call.
METHODS = ("append clear copy count endswith extend find get index insert isalnum isalpha isdigit islower isspace isupper"
           " items join keys ljust lower lstrip partition pop remove replace reverse rfind rjust rpartition rsplit"
           " rstrip setdefault split splitlines startswith strip update upper values zfill bit_length"
           " add discard").split()
BUILTINS = ("len range enumerate zip min max sum abs sorted reversed int str bool list tuple dict set isinstance ord"
            " repr any all divmod iter ValueError").split()
OWN_METHODS = ("__init__", "__eq__", "__len__", "__iter__")
WORDS = ("type typing typing_extensions enum Enum IntEnum StrEnum Flag IntFlag Generic Protocol ABC ABCMeta namedtuple"
         " NamedTuple TypedDict TYPE_CHECKING abstractmethod").split()
BARRED = WORDS + "mro elements open input law register eval exec globals locals vars dir id super print".split()
VIEWS = ("items", "keys", "values")
WALKERS = ("enumerate", "zip", "reversed")
CHANGES = "append clear extend insert pop remove reverse setdefault update".split()
HEADS = ("_wall", "_pe_", "_dcw_", "_enum_", "_cm_", "_twin_re_", "_lay_", "_law_", "_stub_", "_sre", "__")


def bound_names(node):
    """The names that a function binds: its parameters, and what is assigned in it."""
    names = [argument.arg for argument in node.args.posonlyargs + node.args.args + node.args.kwonlyargs]
    for part in ast.walk(node):
        if isinstance(part, ast.Name) and isinstance(part.ctx, ast.Store):
            names.append(part.id)
        if isinstance(part, ast.Lambda):
            names.extend(argument.arg for argument in part.args.args)
    return names


def held_names(node):
    """The names of what a value may be or be taken from: by itself, as a field, by a choice, or through zip and the like."""
    if isinstance(node, ast.Name):
        return [node.id]
    if isinstance(node, (ast.Attribute, ast.Subscript)):
        owner = held_names(node.value)
        return [ast.unparse(node)] if owner else []
    if isinstance(node, ast.IfExp):
        return held_names(node.body) + held_names(node.orelse)
    if isinstance(node, ast.BoolOp):
        return [name for part in node.values for name in held_names(part)]
    if isinstance(node, ast.Call) and isinstance(node.func, ast.Attribute) and node.func.attr in VIEWS:
        return held_names(node.func.value)
    if isinstance(node, ast.Call) and isinstance(node.func, ast.Name) and node.func.id in WALKERS:
        return [name for part in node.args for name in held_names(part)]
    return []


def one_thing_groups(function):
    """A function from a name to a name that stands for all that one plain assignment or more give the same thing."""
    above = {}

    def root(name):
        while name in above:
            name = above[name]
        return name

    for node in ast.walk(function):
        if isinstance(node, ast.Assign):
            for target in node.targets:
                pairs = [(target, node.value)]
                if isinstance(target, ast.Tuple) and isinstance(node.value, ast.Tuple):
                    pairs = list(zip(target.elts, node.value.elts))
                for one, two in pairs:
                    for name in held_names(one):
                        for other in held_names(two):
                            if root(name) != root(other):
                                above[root(name)] = root(other)
    return root


def changed_names(rows):
    """The names of what some rows change: by a method, an item, or an assignment with a sign."""
    names = []
    for node in [part for row in rows for part in ast.walk(row)]:
        if isinstance(node, ast.Call) and isinstance(node.func, ast.Attribute) and node.func.attr in CHANGES:
            names.extend(held_names(node.func.value))
        if isinstance(node, ast.Subscript) and not isinstance(node.ctx, ast.Load):
            names.extend(held_names(node.value))
        if isinstance(node, ast.AugAssign):
            names.extend(held_names(node.target))
    return names


def changed_while_walked(function):
    """The pairs of a line and a name: of the loops of a function that change what they walk."""
    root = one_thing_groups(function)
    found = []
    for node in ast.walk(function):
        walked, rows = [], []
        if isinstance(node, ast.For):
            walked, rows = held_names(node.iter), node.body
        elif isinstance(node, (ast.ListComp, ast.DictComp)):
            walked, rows = [name for part in node.generators for name in held_names(part.iter)], [node]
        groups = [root(name) for name in walked]
        found.extend((node.lineno, name) for name in changed_names(rows) if root(name) in groups)
    return found


def files():
    for name in sorted(os.listdir(PACKAGE)):
        if name.endswith(".py"):
            with open(os.path.join(PACKAGE, name), encoding="utf-8") as held:
                yield name, held.read()


class Language(unittest.TestCase):
    def test_sizes_and_signs(self):
        for name, text in files():
            lines = text.split("\n")
            self.assertLessEqual(len(lines) - 1, 399, name)
            self.assertLessEqual(max(len(line) for line in lines), 120, name)
            self.assertTrue(all(" " <= sign <= "~" or sign == "\n" for sign in text), name)
            for node in ast.walk(ast.parse(text)):
                if isinstance(node, ast.FunctionDef):
                    self.assertLessEqual(node.end_lineno - node.lineno + 1, 40, name + " " + node.name)

    def test_imports(self):
        ahead = {}
        for name, text in files():
            modules = []
            for node in ast.walk(ast.parse(text)):
                self.assertNotIsInstance(node, ast.Import, name)
                if isinstance(node, ast.ImportFrom):
                    self.assertTrue(node.module in BEHIND or node.module.startswith("branchsheets."), name)
                    modules.append(node.module.split(".")[-1])
            ahead[name[:-3]] = modules
        for name in ahead:
            met, waiting = set(), list(ahead[name])
            while waiting:
                module = waiting.pop()
                self.assertNotEqual(module, name)
                if module not in met and module not in BEHIND:
                    met.add(module)
                    waiting.extend(ahead[module])

    def test_names(self):
        for name, text in files():
            tree = ast.parse(text)
            taken = {alias.name for node in tree.body if isinstance(node, ast.ImportFrom) for alias in node.names}
            taken |= {node.name for node in tree.body if isinstance(node, ast.ClassDef)}
            own = [node.name for node in tree.body if isinstance(node, (ast.FunctionDef, ast.ClassDef))]
            self.assertEqual(len(own), len(set(own)), name)
            self.assertFalse(set(own) & {alias for alias in taken if alias not in own}, name)
            for node in ast.walk(tree):
                if isinstance(node, (ast.FunctionDef, ast.ClassDef)):
                    self.assertTrue(node.name in OWN_METHODS or not hasattr(builtins, node.name), (name, node.name))
                    self.assertTrue(node.name in OWN_METHODS or not node.name.startswith(HEADS), (name, node.name))
                    self.assertEqual(node.decorator_list, [], (name, node.name))
                if isinstance(node, ast.FunctionDef):
                    for word in bound_names(node):
                        self.assertFalse(hasattr(builtins, word) and word != "_", (name, word))
                        self.assertNotIn(word, taken, (name, word))
                        self.assertFalse(word.startswith(HEADS), (name, word))
                if isinstance(node, ast.Name) and isinstance(node.ctx, ast.Load):
                    self.assertNotEqual(node.id, "_", name)
                    if hasattr(builtins, node.id):
                        self.assertIn(node.id, BUILTINS, name)

    def test_words(self):
        for name, text in files():
            for token in tokenize.generate_tokens(io.StringIO(text).readline):
                if token.type == tokenize.NAME:
                    self.assertNotIn(token.string, BARRED, name)
                if token.type == tokenize.STRING and not token.string.startswith('"""'):
                    self.assertFalse(set(re.findall(r"\w+", token.string)) & set(WORDS), (name, token.string))
                    self.assertNotIn("%", token.string, name)

    def test_unused(self):
        for name, text in files():
            tree = ast.parse(text)
            used = {node.id for node in ast.walk(tree) if isinstance(node, ast.Name) and isinstance(node.ctx, ast.Load)}
            for node in tree.body:
                if isinstance(node, ast.ImportFrom):
                    self.assertTrue({alias.name for alias in node.names} <= used, (name, node.module))
                    self.assertFalse([alias for alias in node.names if alias.asname or alias.name.startswith("_")], name)
                if isinstance(node, ast.FunctionDef) and node.name.startswith("_"):
                    self.assertIn(node.name, used, name)

    def test_methods(self):
        own = set()
        for name, text in files():
            for node in ast.walk(ast.parse(text)):
                if isinstance(node, ast.ClassDef):
                    own |= {part.name for part in node.body if isinstance(part, ast.FunctionDef)}
        for name, text in files():
            for node in ast.walk(ast.parse(text)):
                if isinstance(node, ast.Call) and isinstance(node.func, ast.Attribute):
                    self.assertIn(node.func.attr, METHODS + sorted(own), name)
                    self.assertTrue(node.func.attr != "sort", name)

    def test_sets_and_comparisons(self):
        for name, text in files():
            for node in ast.walk(ast.parse(text)):
                self.assertNotIsInstance(node, (ast.Set, ast.SetComp, ast.Yield, ast.Await, ast.Global), name)
                if isinstance(node, ast.Compare):
                    for sign, other in zip(node.ops, node.comparators):
                        if isinstance(sign, (ast.Is, ast.IsNot)):
                            self.assertTrue(isinstance(other, ast.Constant) and other.value in (None, True, False), name)
                if isinstance(node, ast.Call) and isinstance(node.func, ast.Name):
                    self.assertFalse(node.func.id in ("set", "frozenset", "print"), name)

    def test_generator_expressions(self):
        # With a class that has an __eq__, any, all, min, max, sum and sorted take lists.
        for name, text in files():
            for node in ast.walk(ast.parse(text)):
                self.assertNotIsInstance(node, ast.GeneratorExp, name)

    def test_walked_things_stay(self):
        for name, text in files():
            for node in ast.walk(ast.parse(text)):
                if isinstance(node, ast.FunctionDef):
                    self.assertEqual(changed_while_walked(node), [], (name, node.name))

    def test_walked_things_that_change_are_seen(self):
        told = (("for x in a:\n        b.append(x)\n    a = b", ["b"]),
                ("for x in list(a):\n        b.append(x)\n    a = b", []),
                ("for x, y in a.items():\n        b[x] = y\n    a, c = b, 1", ["b"]),
                ("for x in enumerate(a.rows):\n        a.rows.pop()", ["a.rows"]),
                ("for x in (a if c else b):\n        b += [x]", ["b"]),
                ("for x in a:\n        b.append(x)\n    c = b", []),
                ("c = [a.pop() for x in a]", ["a"]))
        for rows, names in told:
            function = ast.parse("def f(a, b, c):\n    " + rows).body[0]
            self.assertEqual([name for _, name in changed_while_walked(function)], names, rows)

    def test_handlers(self):
        errors = ("Fault", "Malformed", "Refused", "NoText")
        for name, text in files():
            for node in ast.walk(ast.parse(text)):
                if isinstance(node, ast.ExceptHandler):
                    self.assertIn(node.type.id, errors, name)
                if isinstance(node, ast.Raise):
                    self.assertIn(node.exc.func.id, errors, name)
                if isinstance(node, ast.Starred) and not isinstance(node.ctx, ast.Store):
                    self.assertIsInstance(node.value, ast.Name, name)

    def test_attributes(self):
        # No name is a method and an attribute, and each attribute that is read is assigned somewhere.
        stored, methods, read = set(), set(), set()
        for name, text in files():
            tree = ast.parse(text)
            called = {id(node.func) for node in ast.walk(tree) if isinstance(node, ast.Call)}
            for node in ast.walk(tree):
                if isinstance(node, ast.ClassDef):
                    methods |= {part.name for part in node.body if isinstance(part, ast.FunctionDef)}
                if isinstance(node, ast.Attribute) and isinstance(node.ctx, ast.Store):
                    stored.add(node.attr)
                elif isinstance(node, ast.Attribute) and id(node) not in called:
                    read.add(node.attr)
        self.assertFalse(stored & methods)
        self.assertFalse(read - stored)

    def test_constants(self):
        for name, text in files():
            for node in ast.parse(text).body:
                self.assertIsInstance(node, (ast.Expr, ast.ImportFrom, ast.FunctionDef, ast.ClassDef, ast.Assign), name)
                if isinstance(node, ast.Assign):
                    self.assertEqual(len(node.targets), 1, name)
                    self.assertIsInstance(node.targets[0], ast.Name, name)
                    ast.literal_eval(node.value)

    def test_no_floats_and_powers(self):
        for name, text in files():
            for node in ast.walk(ast.parse(text)):
                self.assertFalse(isinstance(node, ast.Constant) and isinstance(node.value, (float, complex)), name)
                self.assertFalse(isinstance(node, ast.BinOp) and isinstance(node.op, (ast.Div, ast.Pow)), name)
                self.assertNotIsInstance(node, (ast.Global, ast.AsyncFunctionDef), name)


if __name__ == "__main__":
    unittest.main()
