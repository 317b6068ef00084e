"""Those rules of the language subset that a test can see: L1 to L3, L5, L7, L8, L10, L12, L14 to L17, L20, L23, L25,
L27, L28.

The test reads the files of the package. It finds common slips; it does not prove that every rule is kept.
"""

import ast
import builtins
import io
import re
import tokenize
import unittest
import warnings
from pathlib import Path

FOLDER = Path(__file__).resolve().parent.parent / "copyrates"
LIBRARY = {
    "heapq": "heappush heappop heapify heapreplace heappushpop",
    "math": "gcd lcm isqrt comb perm factorial",
    "collections": "defaultdict",
    "__future__": "annotations",
}
BUILTINS = set("""
len range enumerate zip min max sum abs sorted reversed int str bool list tuple dict set isinstance ord repr any all
divmod pow iter next map Exception ValueError TypeError KeyError IndexError LookupError ZeroDivisionError
ArithmeticError OverflowError RuntimeError NotImplementedError AttributeError NotImplemented property staticmethod
classmethod super
""".split())
METHODS = set("""
append clear copy count endswith extend find get index insert isalnum isalpha isdigit islower isspace isupper items
join keys ljust lower lstrip partition pop remove replace reverse rfind rjust rpartition rsplit rstrip setdefault split
splitlines startswith strip update upper values zfill bit_length add discard
""".split())
BARRED = re.compile(r"\b(register|mro|elements|open|input|law|version_info|type|typing|enum|compile|eval|exec|globals"
                    r"|locals|vars|dir|id|os|sys|_wall\w*)\b|dataclass|overload|contextmanager")
CHANGING = set("append clear extend insert pop remove reverse setdefault update sort".split())
LOUD = ("__init__", "__enter__", "__exit__", "__call__", "__setitem__")
NODES = (
    ast.Global, ast.AsyncFunctionDef, ast.AsyncFor, ast.AsyncWith, ast.Await, ast.Div, ast.MatMult, ast.GeneratorExp,
    ast.SetComp,
)


def files():
    return sorted(path for path in FOLDER.iterdir() if path.name != "__pycache__")


def trees():
    return [(path, ast.parse(path.read_text(encoding="ascii"))) for path in files()]


def functions(tree):
    return [node for node in ast.walk(tree) if isinstance(node, ast.FunctionDef)]


def defined(tree):
    """The names that the file itself binds at module level, without imports."""
    found = []
    for node in tree.body:
        if isinstance(node, (ast.FunctionDef, ast.ClassDef)):
            found.append(node.name)
        elif isinstance(node, ast.Assign):
            found.extend(target.id for target in node.targets)
    return found


def imported(tree):
    return [alias.asname or alias.name for node in tree.body if isinstance(node, ast.ImportFrom) for alias in node.names]


def bound(function):
    """The parameters and local variables of a function."""
    found = {node.arg for node in ast.walk(function) if isinstance(node, ast.arg)}
    return found | {node.id for node in ast.walk(function) if isinstance(node, ast.Name) and isinstance(node.ctx, ast.Store)}


def choices(node):
    """The names that an expression may stand for."""
    if isinstance(node, ast.IfExp):
        return choices(node.body) + choices(node.orelse)
    if isinstance(node, ast.BoolOp):
        return [name for part in node.values for name in choices(part)]
    return [ast.unparse(node)] if isinstance(node, (ast.Name, ast.Attribute)) else []


def walked(node):
    """The names that a loop goes over, also through enumerate, zip, reversed and the views of dicts."""
    if isinstance(node, ast.Call):
        if isinstance(node.func, ast.Attribute) and node.func.attr in ("items", "keys", "values"):
            return choices(node.func.value)
        if isinstance(node.func, ast.Name) and node.func.id in ("enumerate", "zip", "reversed"):
            return [name for part in node.args for name in walked(part)]
        return []
    return choices(node)


def changed(rows):
    """The names whose lists or dicts the statements change."""
    found = []
    for node in [part for row in rows for part in ast.walk(row)]:
        if isinstance(node, ast.Call) and isinstance(node.func, ast.Attribute) and node.func.attr in CHANGING:
            found.extend(choices(node.func.value))
        targets = node.targets if isinstance(node, (ast.Assign, ast.Delete)) else []
        for target in targets + ([node.target] if isinstance(node, ast.AugAssign) else []):
            while isinstance(target, ast.Subscript):
                target = target.value
                found.extend(choices(target))
    return found


def one_thing(function):
    """For each name of the function, the set of the names that may stand for the same thing, in whatever order."""
    same = {}
    for node in ast.walk(function):
        if isinstance(node, ast.Assign):
            for names in [choices(target) + choices(node.value) for target in node.targets]:
                joined = set(names).union(*[same.get(name, set()) for name in names])
                same.update({name: joined for name in joined})
    return same


def lazy(node):
    """The word of a call that is iterated on the spot, or None."""
    if isinstance(node, ast.Call) and isinstance(node.func, ast.Name):
        return node.func.id if node.func.id in ("range", "zip", "enumerate", "reversed") else None
    if isinstance(node, ast.Call) and isinstance(node.func, ast.Attribute):
        return node.func.attr if node.func.attr in ("items", "keys", "values") else None
    return None


def iterated(node, above, word):
    """Whether the node, which stands directly in the one above, is iterated there, or used as L23 lets it be."""
    if isinstance(above, (ast.For, ast.comprehension)):
        return above.iter is node
    if isinstance(above, ast.Call) and isinstance(above.func, ast.Name) and above.args[:1] == [node]:
        called = above.func.id
        if called in ("min", "max"):
            return len(above.args) == 1
        if called in ("list", "tuple", "dict", "sorted", "sum", "any", "all", "enumerate", "zip"):
            return True
        return (called == "len" and word in ("range", "items")) or (called == "reversed" and word == "range")
    if isinstance(above, ast.Call) and isinstance(above.func, ast.Attribute):
        return above.func.attr == "join" and isinstance(above.func.value, ast.Constant)
    return isinstance(above, ast.Compare) and word in ("range", "keys") and node in above.comparators


def kept_uses(function, name):
    """The places, with what stands above each, where a function reads a name; None unless it is assigned just once."""
    above = {part: node for node in ast.walk(function) for part in ast.iter_child_nodes(node)}
    named = [node for node in ast.walk(function) if isinstance(node, ast.Name) and node.id == name]
    if len([node for node in named if isinstance(node.ctx, ast.Store)]) != 1:
        return None
    return [(node, above[node]) for node in named if isinstance(node.ctx, ast.Load)]


def is_property(function):
    return "property" in [ast.unparse(mark) for mark in function.decorator_list]


def is_quiet(method):
    """Whether a method of a class may change nothing: an operator, a property, `__eq__`, `__len__`, `__iter__` .."""
    if method.name in LOUD or (method.name.startswith("__i") and method.name not in ("__iter__", "__invert__")):
        return False
    return is_property(method) or (method.name.startswith("__") and method.name.endswith("__"))


def known_by_name(parts):
    """What the package may run for a call of a name, for a call off an object, and for an attribute that is read."""
    plain, methods, read = {}, {}, {}
    for tree in parts:
        for node in tree.body:
            if isinstance(node, ast.FunctionDef):
                plain.setdefault(node.name, []).append(node)
            for method in node.body if isinstance(node, ast.ClassDef) else []:
                if isinstance(method, ast.FunctionDef):
                    (read if is_property(method) else methods).setdefault(method.name, []).append(method)
                    if method.name == "__init__":
                        plain.setdefault(node.name, []).append(method)
    return plain, methods, read


def leads_to(function, known):
    """The functions and methods that a function may run, each method told by its name alone, not by its class."""
    plain, methods, read = known
    found = []
    for node in ast.walk(function):
        if isinstance(node, ast.Call) and isinstance(node.func, ast.Name):
            found.extend(plain.get(node.func.id, []))
        elif isinstance(node, ast.Call) and isinstance(node.func, ast.Attribute):
            found.extend(methods.get(node.func.attr, []))
        elif isinstance(node, ast.Attribute) and isinstance(node.ctx, ast.Load):
            found.extend(read.get(node.attr, []))
    return found


def is_new(node):
    """Whether an expression creates a list or dict."""
    if isinstance(node, ast.Call):
        return ast.unparse(node.func) in ("list", "dict", "sorted", "set")
    return isinstance(node, (ast.List, ast.Dict, ast.ListComp, ast.DictComp))


def own_things(function):
    """The local variables that are only ever assigned a list or dict that the function creates."""
    given = {node.arg: [False] for node in ast.walk(function) if isinstance(node, ast.arg)}
    for node in ast.walk(function):
        if isinstance(node, ast.Assign):
            for name in [target.id for target in node.targets if isinstance(target, ast.Name)]:
                given.setdefault(name, []).append(is_new(node.value))
    return {name for name, made in given.items() if all(made)}


def meddles(function):
    """Whether a function changes what it did not create, or calls what it is passed or holds."""
    for node in ast.walk(function):
        if isinstance(node, ast.Attribute) and not isinstance(node.ctx, ast.Load):
            # What an `__init__` gives to its own object is new.
            if function.name != "__init__" or ast.unparse(node.value) != function.args.args[0].arg:
                return True
        if isinstance(node, ast.Call) and isinstance(node.func, ast.Name) and node.func.id in bound(function):
            return True
    return bool(set(changed(function.body)) - own_things(function))


def loud_quiet_ones(parts):
    """The quiet methods of the package, by class, that lead to a function or method that meddles, with its name."""
    known = known_by_name(parts)
    found = []
    for node in [node for tree in parts for node in tree.body if isinstance(node, ast.ClassDef)]:
        for method in [method for method in node.body if isinstance(method, ast.FunctionDef) and is_quiet(method)]:
            reached, at = [method], 0
            while at < len(reached):
                for other in leads_to(reached[at], known):
                    if other not in reached:
                        reached.append(other)
                at += 1
            found.extend((node.name, method.name, function.name) for function in reached if meddles(function))
    return found


class Language(unittest.TestCase):
    def test_files(self):
        self.assertLessEqual(len(files()), 100)
        for path in files():
            self.assertRegex(path.name, r"^(__init__|__main__|[a-z][a-z0-9_]*)\.py$")
            text = path.read_bytes()
            self.assertTrue(all(byte == 10 or 32 <= byte < 127 for byte in text), path.name)
            lines = text.decode().splitlines()
            self.assertLessEqual(len(lines), 399, path.name)
            self.assertLessEqual(max([len(line) for line in lines], default=0), 120, path.name)

    def test_no_warnings(self):
        for path in files():
            with warnings.catch_warnings():
                warnings.simplefilter("error")
                compile(path.read_text(), str(path), "exec")

    def test_functions_are_short(self):
        for path, tree in trees():
            for node in functions(tree):
                self.assertLessEqual(node.end_lineno - node.lineno + 1, 40, f"{path.name}: {node.name}")

    def test_module_level(self):
        allowed = (ast.ImportFrom, ast.FunctionDef, ast.ClassDef, ast.Assign)
        for path, tree in trees():
            self.assertTrue(ast.get_docstring(tree), path.name)
            for node in tree.body[1:]:
                self.assertIsInstance(node, allowed, f"{path.name}:{node.lineno}")
            names = defined(tree) + imported(tree)
            self.assertEqual(len(names), len(set(names)), path.name)

    def test_imports(self):
        named = {path.stem: defined(tree) for path, tree in trees()}
        needs = {}
        for path, tree in trees():
            needs[path.stem] = set()
            for node in ast.walk(tree):
                self.assertNotIsInstance(node, ast.Import)
                if not isinstance(node, ast.ImportFrom):
                    continue
                self.assertIn(node, tree.body)
                for alias in node.names:
                    self.assertIsNone(alias.asname)
                    if node.module in LIBRARY:
                        self.assertIn(alias.name, LIBRARY[node.module].split())
                    else:
                        package, source = node.module.split(".")
                        self.assertEqual((package, node.level), ("copyrates", 0))
                        self.assertIn(alias.name, named[source], f"{path.name}: {alias.name}")
                        needs[path.stem].add(source)
        while needs:
            free = [name for name, others in needs.items() if not others & set(needs)]
            self.assertTrue(free, f"a circle of imports: {sorted(needs)}")
            needs = {name: others for name, others in needs.items() if name not in free}

    def test_nodes(self):
        for path, tree in trees():
            for node in ast.walk(tree):
                where = f"{path.name}:{getattr(node, 'lineno', 0)}"
                self.assertNotIsInstance(node, NODES, where)
                if isinstance(node, ast.Constant):
                    self.assertIn(type(node.value), (int, str, bool, type(None)), where)
                if isinstance(node, ast.Compare):
                    for sign, other in zip(node.ops, node.comparators):
                        if isinstance(sign, (ast.Is, ast.IsNot)):
                            self.assertIn(getattr(other, "value", 0), (None, True, False), where)
                if isinstance(node, ast.BinOp) and isinstance(node.op, ast.Pow):
                    self.assertIsInstance(node.right, ast.Constant, where)
                if isinstance(node, (ast.FunctionDef, ast.ClassDef)):
                    for mark in node.decorator_list:
                        shown = ast.unparse(mark)
                        self.assertTrue(shown in ("property", "classmethod", "staticmethod") or
                                        shown.endswith(".setter"), where)

    def test_names(self):
        every = set(dir(builtins))
        for path, tree in trees():
            known = set(imported(tree)) | {node.name for node in tree.body if isinstance(node, ast.ClassDef)}
            for name in defined(tree) + imported(tree):
                self.assertNotIn(name, every, path.name)
            for function in functions(tree):
                self.assertFalse(bound(function) & (every | known), f"{path.name}: {function.name}")
            for node in ast.walk(tree):
                if isinstance(node, ast.Name) and node.id in every:
                    self.assertIn(node.id, BUILTINS, f"{path.name}:{node.lineno}")

    def test_methods(self):
        own = {node.name for path, tree in trees() for node in functions(tree)}
        for path, tree in trees():
            for node in ast.walk(tree):
                if isinstance(node, ast.Call) and isinstance(node.func, ast.Attribute):
                    self.assertIn(node.func.attr, METHODS | own, f"{path.name}:{node.lineno}")

    def test_walked_lists_stay(self):
        for path, tree in trees():
            for function in functions(tree):
                same = one_thing(function)
                for loop in [node for node in ast.walk(function) if isinstance(node, ast.For)]:
                    names = changed(loop.body)
                    for name in walked(loop.iter):
                        self.assertFalse(same.get(name, {name}) & set(names), f"{path.name}:{loop.lineno}")

    def test_iterated_at_once(self):
        for path, tree in trees():
            for function in functions(tree):
                above = {part: node for node in ast.walk(function) for part in ast.iter_child_nodes(node)}
                for node in [node for node in above if lazy(node)]:
                    where, parent = f"{path.name}:{node.lineno}", above[node]
                    if not isinstance(parent, ast.Assign):
                        self.assertTrue(iterated(node, parent, lazy(node)), where)
                        continue
                    # A range alone is kept here; the rules for the others are narrower.
                    self.assertEqual((lazy(node), len(parent.targets)), ("range", 1), where)
                    for use, outer in kept_uses(function, parent.targets[0].id):
                        self.assertTrue(iterated(use, outer, "range") or isinstance(outer, ast.Subscript), where)

    def test_iterated_at_once_is_seen(self):
        for row, wanted in (
            ("f(range(3))", False), ("for k in range(3): pass", True), ("return zip(xs, ys)", False),
            ("[k for k in enumerate(xs)]", True), ("max(range(3), 4)", False), ("g(list(d.items()))", True),
            ("zip(xs, range(3))", False), ("len(d.values())", False), ("f(d.keys())", False),
        ):
            function = ast.parse("def tried(xs, ys, d, f, g):\n    " + row).body[0]
            above = {part: node for node in ast.walk(function) for part in ast.iter_child_nodes(node)}
            found = [iterated(node, above[node], lazy(node)) for node in above if lazy(node)]
            self.assertIs(all(found), wanted, row)

    def test_operators_and_properties_change_nothing(self):
        self.assertEqual(loud_quiet_ones([tree for path, tree in trees()]), [])

    def test_operators_and_properties_that_change_are_seen(self):
        desk = "class Desk:\n    def back(self):\n        self.deeds = self.deeds[:-1]\n"
        for head, row, wanted in (
            ("def __and__(self, other):", "return self.back(other)", ["back"]),
            ("def __and__(self, other):", "return told(self, other)", []),
            ("def __and__(self, other):", "return told(back, other)", []),
            ("def __len__(self):", "return len(through(self))", ["back"]),
            ("def __iter__(self):", "return iter(self.rows)", []),
            ("def __iter__(self):", "return iter(self.back())", ["back"]),
            ("def __eq__(self, other):", "return grown(self.rows) == other", ["grown"]),
            ("def __contains__(self, x):", "return len(made(x)) > 0", []),
            ("def __contains__(self, x):", "return x(self)", ["__contains__"]),
            ("def __add__(self, other):", "return Desk().top", ["top"]),
            ("def __iadd__(self, other):", "return self.back()", []),
            ("@property\n    def many(self):", "return self.back()", ["back"]),
            ("def many(self):", "return self.back()", []),
        ):
            text = desk + f"class Run:\n    {head}\n        {row}\n" + (
                "class Low:\n    @property\n    def top(self):\n        self.n = 1\n" if "top" in row else "")
            text += ("def told(run, lot):\n    return lot\ndef through(run):\n    return run.back()\n"
                     "def grown(rows):\n    rows.append(1)\n    return rows\n"
                     "def made(x):\n    rows = [x]\n    rows.append(x)\n    return rows\n")
            found = loud_quiet_ones([ast.parse(text)])
            self.assertEqual([name for owner, method, name in found if owner == "Run"], wanted, (head, row))

    def test_generators(self):
        every = [node.name for path, tree in trees() for node in functions(tree)]
        for path, tree in trees():
            for node in functions(tree):
                if any(isinstance(part, (ast.Yield, ast.YieldFrom)) for part in ast.walk(node)):
                    self.assertEqual(every.count(node.name), 1, node.name)
                    self.assertNotIn(node.name, METHODS)

    def test_words_and_strings(self):
        for path in files():
            for token in tokenize.generate_tokens(io.StringIO(path.read_text()).readline):
                where = f"{path.name}:{token.start[0]}"
                if token.type == tokenize.NAME:
                    self.assertIsNone(BARRED.search(token.string), where)
                elif token.type == tokenize.STRING:
                    self.assertNotIn("%", token.string, where)
                    self.assertIsNone(re.search(r"\\[^n\\t'\"]", token.string), where)


if __name__ == "__main__":
    unittest.main()
