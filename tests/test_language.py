"""The rules of the language that can be seen in one look at the files of the package."""

import ast
import builtins
import io
import pathlib
import re
import tokenize
import unittest

PACKAGE = pathlib.Path(__file__).resolve().parent.parent / "thinwall"

BUILTINS = """len range enumerate zip min max sum abs sorted reversed int str bool list tuple dict set
isinstance ord repr any all divmod map iter next super property staticmethod classmethod
Exception ValueError TypeError KeyError IndexError LookupError ZeroDivisionError ArithmeticError
OverflowError RuntimeError NotImplementedError AttributeError StopIteration NotImplemented""".split()

METHODS = """append clear copy count endswith extend find get index insert isalnum isalpha isdigit
islower isspace isupper items join keys ljust lower lstrip partition pop remove replace reverse rfind
rjust rpartition rsplit rstrip setdefault split splitlines startswith strip update upper values zfill
bit_length title capitalize swapcase casefold removeprefix removesuffix rindex isascii isdecimal
isnumeric istitle isidentifier isprintable __init__""".split()

BARRED = """register mro elements open input law version_info with_traceback add_note attrgetter
breakpoint compile copyright credits delattr dir eval exec exit gc getattr globals hasattr help id
importlib license locals methodcaller os quit setattr type vars sys""".split()

WORDS = """type typing typing_extensions enum Enum IntEnum StrEnum Flag IntFlag Generic Protocol ABC
ABCMeta namedtuple NamedTuple TypedDict TYPE_CHECKING abstractmethod dataclass overload
contextmanager""".split()

DUNDERS = """__init__ __eq__ __ne__ __repr__ __str__ __len__ __call__ __iter__ __and__ __or__
__invert__ __contains__""".split()

STATEMENTS = (ast.Assign, ast.AugAssign, ast.If, ast.While, ast.For, ast.Return, ast.Break, ast.Continue,
              ast.Pass, ast.Raise, ast.Assert, ast.Delete, ast.Nonlocal, ast.Match, ast.With, ast.Try, ast.Expr,
              ast.FunctionDef, ast.ClassDef, ast.ImportFrom)

NOT_ALLOWED = (ast.GeneratorExp, ast.SetComp, ast.Set, ast.Div, ast.MatMult, ast.Await, ast.Global,
               ast.AsyncFunctionDef, ast.AsyncFor, ast.AsyncWith, ast.Import, ast.NamedExpr)

DECORATORS = ("property", "staticmethod", "classmethod")

# Double-underscore methods that may change something, or call what they are passed.
MAY_CHANGE = ("__init__", "__call__", "__iter__", "__setitem__")

CALLED_FREELY = [name for name in BUILTINS if name not in ("map", "iter", "next")]

CHANGING = """append clear extend insert pop remove reverse setdefault update sort add discard""".split()


def files():
    return sorted(PACKAGE.rglob("*.py"))


def trees():
    return [(path, ast.parse(path.read_text(encoding="utf-8"))) for path in files()]


def nodes(*kinds):
    return [(path, node) for path, tree in trees() for node in ast.walk(tree) if isinstance(node, kinds)]


def arguments(function):
    given = function.args
    found = given.posonlyargs + given.args + given.kwonlyargs + [given.vararg, given.kwarg]
    return [one.arg for one in found if one is not None]


def sorted_or_counted(tree):
    """What stands directly in sorted(..) or len(..), where a set may stand."""
    calls = [node for node in ast.walk(tree) if isinstance(node, ast.Call) and isinstance(node.func, ast.Name)]
    return [id(call.args[0]) for call in calls if call.func.id in ("sorted", "len") and call.args and not call.keywords]


def is_setter(function):
    return any(isinstance(one, ast.Attribute) and one.attr == "setter" for one in function.decorator_list)


def generators():
    return {node.name for _, node in nodes(ast.FunctionDef)
            if any(isinstance(inner, (ast.Yield, ast.YieldFrom)) for inner in ast.walk(node))}


def is_plain(node):
    """A plain value, or a tuple or a dict of such."""
    if isinstance(node, ast.Tuple):
        return all(is_plain(item) for item in node.elts)
    if isinstance(node, ast.Dict):
        return all(isinstance(item, ast.Constant) for item in node.keys + node.values)
    return isinstance(node, ast.Constant)


def is_docstring(node):
    return isinstance(node, ast.Expr) and isinstance(node.value, ast.Constant) and isinstance(node.value.value, str)


class TheFiles(unittest.TestCase):
    def test_the_folder_holds_plain_python_files_only(self):
        for path in PACKAGE.rglob("*"):
            if "__pycache__" in path.parts:
                continue
            self.assertTrue(path.is_dir() or re.fullmatch(r"[a-z][a-z0-9_]*\.py|__init__\.py", path.name), path)
        self.assertTrue((PACKAGE / "__init__.py").is_file())

    def test_characters_and_sizes(self):
        for path in files():
            lines = path.read_text(encoding="utf-8").split("\n")
            self.assertLessEqual(len(lines), 400, path)
            for number, line in enumerate(lines, 1):
                self.assertTrue(all(" " <= character <= "~" for character in line), (path, number))
                self.assertLessEqual(len(line), 120, (path, number))
                self.assertNotIn("_wall", line, (path, number))
        for path, function in nodes(ast.FunctionDef):
            self.assertLessEqual(function.end_lineno - function.lineno + 1, 40, (path, function.name))

    def test_words_that_stand_nowhere(self):
        docstrings = {id(tree.body[0].value) for _, tree in trees() if is_docstring(tree.body[0])}
        for path, node in nodes(ast.FunctionDef, ast.ClassDef):
            if is_docstring(node.body[0]):
                docstrings.add(id(node.body[0].value))
        for path in files():
            for token in tokenize.generate_tokens(io.StringIO(path.read_text(encoding="utf-8")).readline):
                if token.type == tokenize.NAME:
                    self.assertNotIn(token.string, WORDS, (path, token.start))
        for path, node in nodes(ast.Constant):
            if isinstance(node.value, str):
                self.assertNotIn("%", node.value, (path, node.lineno))
                self.assertFalse(set(re.findall(r"\w+", node.value)) & set(WORDS) - {"type"}, (path, node.lineno))
            self.assertNotIsInstance(node.value, (float, complex, bytes), (path, node.lineno))


class TheStatements(unittest.TestCase):
    def test_imports_name_the_file_that_defines_the_name(self):
        edges = {}
        for path, tree in trees():
            edges[path.stem] = []
            for node in tree.body:
                if not isinstance(node, ast.ImportFrom):
                    continue
                self.assertEqual(node.level, 0, path)
                package, module = node.module.split(".")
                self.assertEqual(package, "thinwall", path)
                edges[path.stem].append(module)
                defined = ast.parse((PACKAGE / f"{module}.py").read_text(encoding="utf-8")).body
                names = [one.name for one in defined if isinstance(one, (ast.FunctionDef, ast.ClassDef))]
                names += [target.id for one in defined if isinstance(one, ast.Assign) for target in one.targets]
                for alias in node.names:
                    self.assertIn(alias.name, names, (path, node.lineno))
                    self.assertIsNone(alias.asname, (path, node.lineno))
        while edges:
            free = [name for name, needed in edges.items() if not set(needed) & set(edges)]
            self.assertTrue(free, "some files import from each other")
            for name in free:
                del edges[name]

    def test_imports_are_used(self):
        for path, tree in trees():
            used = [node.id for node in ast.walk(tree) if isinstance(node, ast.Name)]
            for node in tree.body:
                if isinstance(node, ast.ImportFrom):
                    for alias in node.names:
                        self.assertIn(alias.name, used, path)

    def test_module_level(self):
        for path, tree in trees():
            self.assertTrue(is_docstring(tree.body[0]), path)
            for node in tree.body[1:]:
                self.assertIsInstance(node, (ast.ImportFrom, ast.FunctionDef, ast.ClassDef, ast.Assign), path)
                if isinstance(node, ast.Assign):
                    self.assertTrue(is_plain(node.value), (path, node.lineno))
            names = [node.name for node in tree.body if isinstance(node, (ast.FunctionDef, ast.ClassDef))]
            self.assertEqual(len(names), len(set(names)), path)

    def test_only_the_allowed_statements_and_expressions(self):
        for path, node in nodes(ast.stmt):
            self.assertIsInstance(node, STATEMENTS, (path, node.lineno))
        for path, tree in trees():
            inside = sorted_or_counted(tree)
            for node in ast.walk(tree):
                if isinstance(node, ast.SetComp) and id(node) in inside:
                    continue
                self.assertNotIsInstance(node, NOT_ALLOWED, (path, getattr(node, "lineno", 0)))
                if isinstance(node, ast.Compare) and isinstance(node.ops[0], (ast.Is, ast.IsNot)):
                    self.assertIsInstance(node.comparators[0], ast.Constant, (path, node.lineno))
                if isinstance(node, ast.BinOp) and isinstance(node.op, ast.Pow):
                    self.assertIsInstance(node.right, ast.Constant, (path, node.lineno))
                if isinstance(node, ast.Raise) and node.exc is not None:
                    self.assertIsInstance(node.exc, ast.Call, (path, node.lineno))

    def test_sets_are_sorted_or_counted_on_the_spot(self):
        for path, tree in trees():
            inside = sorted_or_counted(tree)
            for node in ast.walk(tree):
                if isinstance(node, ast.Call) and isinstance(node.func, ast.Name) and node.func.id == "set":
                    self.assertIn(id(node), inside, (path, node.lineno))


    def test_what_stands_in_a_finally(self):
        for path, node in nodes(ast.Try):
            for one in node.finalbody:
                self.assertIsInstance(one, ast.Assign, (path, one.lineno))
                for part in [one.value] + one.targets:
                    self.assertIsInstance(part, (ast.Name, ast.Attribute, ast.Tuple), (path, one.lineno))

    def test_only_own_errors_are_caught(self):
        own = {node.name for path, node in nodes(ast.ClassDef) if path.stem == "errors"}
        for path, node in nodes(ast.ExceptHandler):
            self.assertIn(node.type.id, own, (path, node.lineno))

    def test_generators_are_iterated_at_once(self):
        names = generators()
        for path, tree in trees():
            iterated = [id(node.iter) for node in ast.walk(tree) if isinstance(node, (ast.For, ast.comprehension))]
            iterated += [id(node.args[0]) for node in ast.walk(tree) if isinstance(node, ast.Call) and node.args
                         and getattr(node.func, "id", None) in ("list", "tuple", "dict", "sorted", "enumerate")]
            for node in ast.walk(tree):
                if not isinstance(node, ast.Call):
                    continue
                if getattr(node.func, "id", getattr(node.func, "attr", None)) in names:
                    self.assertIn(id(node), iterated, (path, node.lineno))
                    for one in node.args:
                        self.assertIsInstance(one, (ast.Name, ast.Attribute, ast.Constant, ast.Lambda), (path, node.lineno))

    def test_no_yield_under_a_try(self):
        for path, node in nodes(ast.Try, ast.With):
            self.assertFalse([one for one in ast.walk(node) if isinstance(one, (ast.Yield, ast.YieldFrom))], path)


class TheNames(unittest.TestCase):
    def test_names_are_plain_and_mean_one_thing(self):
        for path, tree in trees():
            taken = [alias.name for node in tree.body if isinstance(node, ast.ImportFrom) for alias in node.names]
            taken += [node.name for node in tree.body if isinstance(node, ast.ClassDef)]
            defined = []
            for node in ast.walk(tree):
                if isinstance(node, (ast.FunctionDef, ast.Lambda)):
                    defined += arguments(node)
                if isinstance(node, ast.Name) and isinstance(node.ctx, ast.Store):
                    defined.append(node.id)
            functions = [node.name for node in tree.body if isinstance(node, (ast.FunctionDef, ast.ClassDef))]
            for name in defined:
                self.assertNotIn(name, taken, path)
            for name in defined + functions:
                self.assertNotIn(name, dir(builtins), path)
                self.assertNotIn(name, BARRED, path)
                self.assertRegex(name, r"^_?[A-Za-z][A-Za-z0-9_]*$|^_$", path)

    def test_only_the_allowed_builtins(self):
        for path, node in nodes(ast.Name):
            if isinstance(node.ctx, ast.Load) and node.id in dir(builtins):
                self.assertIn(node.id, BUILTINS, (path, node.lineno))

    def test_only_the_allowed_methods(self):
        own = [node.name for _, node in nodes(ast.FunctionDef)]
        for path, node in nodes(ast.Call):
            if isinstance(node.func, ast.Attribute):
                self.assertIn(node.func.attr, METHODS + own, (path, node.lineno))
        for path, node in nodes(ast.Attribute):
            self.assertNotIn(node.attr, BARRED, (path, node.lineno))


class TheClasses(unittest.TestCase):
    def test_decorators_and_double_underscore_methods(self):
        for path, function in nodes(ast.FunctionDef):
            for decorator in function.decorator_list:
                if is_setter(function):
                    self.assertEqual((decorator.value.id, len(function.decorator_list)), (function.name, 1), path)
                    continue
                self.assertIn(getattr(decorator, "id", None), DECORATORS, (path, function.name))
            if function.name.startswith("__"):
                self.assertIn(function.name, DUNDERS, path)
        for path, node in nodes(ast.ClassDef):
            self.assertFalse(node.decorator_list, (path, node.name))
            self.assertRegex(node.name, r"^[A-Z]", path)

    def test_what_len_str_and_repr_return(self):
        for path, function in nodes(ast.FunctionDef):
            if function.name not in ("__len__", "__str__", "__repr__"):
                continue
            self.assertEqual(len(function.body), 1, (path, function.name))
            value = function.body[0].value
            if isinstance(value, ast.JoinedStr):
                continue
            self.assertIsInstance(value, ast.Call, (path, function.name))
            if function.name == "__len__":
                self.assertEqual(value.func.id, "len", path)
            elif isinstance(value.func, ast.Attribute):
                self.assertEqual(value.func.attr, "join", path)
            else:
                self.assertIn(value.func.id, ("str", "repr"), path)

    def test_a_name_is_a_method_or_an_attribute(self):
        for path, node in nodes(ast.ClassDef):
            own = [one.name for one in node.body if isinstance(one, ast.FunctionDef) and not is_setter(one)]
            stored = [one.attr for one in ast.walk(node) if isinstance(one, ast.Attribute)
                      and isinstance(one.ctx, ast.Store)]
            self.assertFalse(set(own) & set(stored), (path, node.name))
            self.assertEqual(len(own), len(set(own)), (path, node.name))

    def test_names_of_methods_are_no_names_of_attributes(self):
        stored = {node.attr for _, node in nodes(ast.Attribute) if isinstance(node.ctx, ast.Store)}
        plain, bound, properties, generators, functions = [], [], [], [], []
        for _, node in nodes(ast.ClassDef):
            for one in node.body:
                if isinstance(one, ast.FunctionDef) and not is_setter(one):
                    names = [getattr(decorator, "id", None) for decorator in one.decorator_list]
                    (properties if "property" in names else bound if names else plain).append(one.name)
        for _, node in nodes(ast.FunctionDef):
            yields = any(isinstance(inner, (ast.Yield, ast.YieldFrom)) for inner in ast.walk(node))
            (generators if yields else functions).append(node.name)
        self.assertFalse(stored & set(plain + bound + properties))
        self.assertFalse(set(bound) & set(plain + properties + METHODS))
        self.assertFalse(set(properties) & set(plain + METHODS))
        self.assertFalse(set(generators) & set(functions + METHODS))
        self.assertEqual(len(generators), len(set(generators)))

    def test_what_stands_behind_and_beside_stars(self):
        for path, node in nodes(ast.Call):
            starred = [one.value for one in node.args if isinstance(one, ast.Starred)]
            starred += [one.value for one in node.keywords if one.arg is None]
            if not starred:
                continue
            if any(one.arg is None for one in node.keywords):
                self.assertEqual(len(node.keywords), 1, (path, node.lineno))
                starred += node.args
            for one in starred:
                base = one.value if isinstance(one, ast.Attribute) else one
                self.assertIsInstance(base, (ast.Name, ast.Starred, ast.Constant), (path, node.lineno))


class Reach:
    """All that operators and properties run, found by the names that are called.

    It errs on the side of too much: a call of a method reaches all methods of that name.
    """

    def __init__(self, parsed):
        self.functions = {}
        self.stored = set()
        classes = [node for tree in parsed for node in ast.walk(tree) if isinstance(node, ast.ClassDef)]
        self.classes = {node.name: node for node in classes}
        for tree in parsed:
            for node in ast.walk(tree):
                if isinstance(node, ast.FunctionDef):
                    self.functions.setdefault(node.name, []).append(node)
                if isinstance(node, ast.Attribute) and isinstance(node.ctx, ast.Store):
                    self.stored.add(node.attr)
        self.methods = {one.name for node in classes for one in node.body if isinstance(one, ast.FunctionDef)}

    def roots(self):
        found = [node for nodes_of_name in self.functions.values() for node in nodes_of_name]
        return [node for node in found if (node.name.startswith("__") and node.name not in MAY_CHANGE)
                or any(getattr(one, "id", None) == "property" for one in node.decorator_list)]

    def reached(self):
        found = self.roots()
        for function in found:
            for call in calls_in(function):
                found += [node for node in self.called(call) if node not in found]
        return found

    def called(self, call):
        if isinstance(call.func, ast.Attribute):
            if call.func.attr == "__init__":
                return []  # constructors(..) follows the base classes
            return self.functions.get(call.func.attr, []) if call.func.attr in self.methods else []
        if call.func.id in self.classes:
            return self.constructors(call.func.id)
        return self.functions.get(call.func.id, [])

    def constructors(self, name):
        node = self.classes[name]
        above = [one for base in node.bases if base.id in self.classes for one in self.constructors(base.id)]
        return above + [one for one in node.body if getattr(one, "name", None) == "__init__"]

    def faults(self):
        return [(function.name, getattr(node, "lineno", 0), fault)
                for function in self.reached() for node in ast.walk(function)
                for fault in self.faults_at(function, node)]

    def faults_at(self, function, node):
        if isinstance(node, ast.Lambda):
            return ["a lambda"]
        if isinstance(node, ast.AugAssign) and not (isinstance(node.target, ast.Name) and whole_number(node.value)):
            return ["an assignment with a sign"]
        if isinstance(node, (ast.Attribute, ast.Subscript)) and not isinstance(node.ctx, ast.Load):
            in_own_object = isinstance(node, ast.Attribute) and getattr(node.value, "id", None) == "self"
            return [] if function.name == "__init__" and in_own_object else ["a change of a part"]
        if not isinstance(node, ast.Call):
            return []
        if isinstance(node.func, ast.Name):
            known = node.func.id in self.functions or node.func.id in self.classes or node.func.id in CALLED_FREELY
            return [] if known else ["a call of what is passed or held"]
        if not isinstance(node.func, ast.Attribute):
            return ["a call of what is held"]
        faults = ["a name that is an attribute, too"] if node.func.attr in self.stored else []
        if node.func.attr in CHANGING and not is_own_list(function, node.func.value):
            faults.append("a change of something that was not made here")
        return faults


def calls_in(function):
    return [node for node in ast.walk(function) if isinstance(node, ast.Call)
            and isinstance(node.func, (ast.Name, ast.Attribute))]


def whole_number(node):
    return isinstance(node, ast.Constant) and isinstance(node.value, int)


def is_own_list(function, node):
    """Whether the list is a local name that stands for lists made in the function only."""
    if not isinstance(node, ast.Name) or node.id in arguments(function):
        return False
    stores = [one for one in ast.walk(function) if isinstance(one, ast.Name) and isinstance(one.ctx, ast.Store)
              and one.id == node.id]
    made = [one for one in ast.walk(function) if isinstance(one, ast.Assign) and makes_list(one.value)
            and [getattr(target, "id", None) for target in one.targets] == [node.id]]
    return len(stores) == len(made) > 0


def makes_list(node):
    named = isinstance(node, ast.Call) and getattr(node.func, "id", None) in ("list", "sorted")
    return named or isinstance(node, (ast.List, ast.ListComp))


class TheOperators(unittest.TestCase):
    def test_operators_and_properties_change_nothing_and_call_nothing_that_they_hold(self):
        self.assertEqual(Reach([tree for _, tree in trees()]).faults(), [])

    def test_the_rule_is_seen_to_be_broken(self):
        for row in ("self.parts.append(other)", "rows = self.rows\n        rows.append(1)", "self.at = other",
                    "other.index(1)", "other[0] = 1", "self.step(other)", "other(1)", "found = []\n        found += [1]",
                    "other.low(lambda one: one)", "Other()", "swap(other)", "found = [0] * 3\n        found.pop()"):
            text = ("class Other:\n    def __init__(self):\n        self.index = self.made().pop()\n\n"
                    "    def made(self):\n        return []\n\n"
                    "    def step(self, by):\n        self.many += by\n\n\n"
                    "def swap(items):\n    items[0] = items[1]\n\n\n"
                    f"class Box:\n    def __add__(self, other):\n        {row}\n        return other\n")
            self.assertNotEqual(Reach([ast.parse(text)]).faults(), [], row)
        for row in ("found = []\n        found.append(1)", "at = 0\n        at += 1", "found = sorted(other)\n        found.pop()"):
            text = f"class Box:\n    def __add__(self, other):\n        {row}\n        return other\n"
            self.assertEqual(Reach([ast.parse(text)]).faults(), [], row)


if __name__ == "__main__":
    unittest.main()
