"""The rules of the language in which the package is written, as far as a test can see them."""

import ast
import io
import pathlib
import re
import tokenize
import unittest

import openorder

PACKAGE = pathlib.Path(openorder.__file__).parent
LIBRARY = {"heapq": {"heappush", "heappop", "heapify", "heapreplace", "heappushpop"},
           "math": {"gcd", "lcm", "isqrt", "comb", "perm", "factorial"},
           "itertools": {"product", "combinations", "permutations"}}
BUILTINS = set(
    "len range enumerate zip min max sum abs sorted reversed int str bool bytes list tuple dict set frozenset "
    "isinstance ord repr any all divmod iter next map Exception ValueError TypeError KeyError IndexError "
    "LookupError ZeroDivisionError ArithmeticError OverflowError RuntimeError NotImplementedError "
    "AttributeError StopIteration NotImplemented".split())
METHODS = set(
    "append clear copy count endswith extend find get index insert isalnum isalpha isdigit islower isspace isupper "
    "items join keys ljust lower lstrip partition pop remove replace reverse rfind rjust rpartition rsplit rstrip "
    "setdefault split splitlines startswith strip update upper values zfill bit_length sort "
    "add discard __init__".split())
BARRED_NAMES = set(
    "register mro elements open input law version_info with_traceback add_note attrgetter breakpoint builtins compile "
    "copyright credits delattr dir eval exec exit gc getattr globals hasattr help id importlib license locals "
    "methodcaller os quit setattr super type vars sys __name__ args format format_map".split())
BARRED_ATTRIBUTES = set(
    "items keys values pop update append clear extend insert remove reverse setdefault sort args encode decode hex "
    "fromhex format format_map mro register elements open input law as_integer_ratio bit_count conjugate from_bytes "
    "is_integer to_bytes".split())
BARRED_WORDS = set(
    "type typing typing_extensions enum Enum IntEnum StrEnum Flag IntFlag Generic Protocol ABC ABCMeta namedtuple "
    "NamedTuple TypedDict TYPE_CHECKING abstractmethod dataclass overload contextmanager".split())
BARRED_KINDS = (ast.Global, ast.AsyncFunctionDef, ast.AsyncFor, ast.AsyncWith, ast.Await, ast.Div, ast.SetComp,
                ast.Set, ast.AnnAssign, ast.MatMult, ast.TypeAlias if hasattr(ast, "TypeAlias") else ast.Global)
BEHAVIOUR_OF_BUILTINS = set(dir(str)) | set(dir(list)) | set(dir(dict)) | set(dir(int)) | set(dir(bytes)) | set(dir(set))


def files():
    return sorted(path for path in PACKAGE.rglob("*") if "__pycache__" not in path.parts and path.is_file())


class Language(unittest.TestCase):
    def each(self):
        for path in files():
            text = path.read_text("ascii")
            yield path, text, ast.parse(text)

    def own_names(self):
        names = set()
        for _, _, tree in self.each():
            names |= {node.name for node in ast.walk(tree) if isinstance(node, (ast.FunctionDef, ast.ClassDef))}
        return names

    def test_files(self):
        self.assertLessEqual(len(files()), 100)
        for path in files():
            self.assertRegex(path.name, r"^[a-z_0-9]+\.py$")
            text = path.read_text("ascii")
            self.assertLessEqual(len(text.splitlines()), 399, path)
            for number, line in enumerate(text.split("\n")):
                self.assertLessEqual(len(line), 120, (path, number))
                self.assertTrue(all(" " <= sign <= "~" for sign in line), (path, number))

    def test_sizes_of_functions(self):
        for path, _, tree in self.each():
            for node in ast.walk(tree):
                if isinstance(node, ast.FunctionDef):
                    self.assertLessEqual(node.end_lineno - node.lineno + 1, 40, (path, node.name))
                    self.assertEqual(node.decorator_list, [], (path, node.name))

    def test_module_level(self):
        for path, _, tree in self.each():
            for place, node in enumerate(tree.body):
                is_doc = place == 0 and isinstance(node, ast.Expr) and isinstance(node.value, ast.Constant)
                is_value = isinstance(node, ast.Assign) and len(node.targets) == 1 and isinstance(node.targets[0], ast.Name)
                self.assertTrue(is_doc or is_value or isinstance(node, (ast.ImportFrom, ast.FunctionDef, ast.ClassDef)),
                                (path, node.lineno))
            names = [node.name for node in tree.body if isinstance(node, (ast.FunctionDef, ast.ClassDef))]
            names += [alias.name for node in tree.body if isinstance(node, ast.ImportFrom) for alias in node.names]
            names += [node.targets[0].id for node in tree.body if isinstance(node, ast.Assign)]
            self.assertEqual(len(names), len(set(names)), path)

    def test_imports(self):
        defined, imported = {}, {}
        for path, _, tree in self.each():
            name = "openorder." + path.stem
            defined[name] = {node.name for node in tree.body if isinstance(node, (ast.FunctionDef, ast.ClassDef))}
            defined[name] |= {node.targets[0].id for node in tree.body if isinstance(node, ast.Assign)}
            imported[name] = [node for node in ast.walk(tree) if isinstance(node, (ast.Import, ast.ImportFrom))]
        for name, nodes in imported.items():
            for node in nodes:
                self.assertIsInstance(node, ast.ImportFrom)
                self.assertEqual(node.level, 0)
                for alias in node.names:
                    self.assertIsNone(alias.asname)
                    self.assertIn(alias.name, LIBRARY.get(node.module) or defined[node.module], name)
        self.check_no_circles({name: {node.module for node in nodes} for name, nodes in imported.items()})

    def check_no_circles(self, needed):
        left = dict(needed)
        while left:
            free = [name for name, modules in left.items() if not modules & set(left)]
            self.assertTrue(free, f"circular imports among {sorted(left)}")
            for name in free:
                del left[name]

    def test_statements_and_values(self):
        own = self.own_names()
        for path, _, tree in self.each():
            for node in ast.walk(tree):
                where = (path, getattr(node, "lineno", 0))
                self.assertNotIsInstance(node, BARRED_KINDS, where)
                if isinstance(node, ast.Constant):
                    self.assertNotIsInstance(node.value, (float, complex), where)
                if isinstance(node, ast.Compare) and any(isinstance(sign, (ast.Is, ast.IsNot)) for sign in node.ops):
                    self.assertIsInstance(node.comparators[0], ast.Constant, where)
                if isinstance(node, ast.ExceptHandler):
                    for caught in node.type.elts if isinstance(node.type, ast.Tuple) else [node.type]:
                        self.assertIsInstance(caught, ast.Name, where)
                        self.assertTrue(caught.id in own | {"KeyError", "ZeroDivisionError"}, where)
                if isinstance(node, ast.Raise) and node.exc is not None:
                    self.assertIsInstance(node.exc, ast.Call, where)
                    self.assertIsInstance(node.exc.func, ast.Name, where)

    def test_names(self):
        every_builtin = set(dir(__builtins__)) if not isinstance(__builtins__, dict) else set(__builtins__)
        for path, _, tree in self.each():
            kept = {node.name for node in ast.walk(tree) if isinstance(node, ast.ClassDef)}
            kept |= {alias.name for node in ast.walk(tree) if isinstance(node, ast.ImportFrom) for alias in node.names}
            for node in ast.walk(tree):
                for name in bound_names(node):
                    where = (path, node.lineno, name)
                    self.assertFalse(name in BARRED_NAMES | every_builtin, where)
                    self.assertFalse(name in kept and not isinstance(node, ast.ClassDef), where)
                    self.assertRegex(name, r"^(_|_?[A-Za-z][A-Za-z0-9_]*)$", where)
                if isinstance(node, ast.Name) and isinstance(node.ctx, ast.Load) and node.id in every_builtin:
                    self.assertIn(node.id, BUILTINS, (path, node.lineno))
                if isinstance(node, ast.Name) and isinstance(node.ctx, ast.Load):
                    self.assertNotEqual(node.id, "_", (path, node.lineno))

    def test_classes(self):
        for path, _, tree in self.each():
            for made in [node for node in ast.walk(tree) if isinstance(node, ast.ClassDef)]:
                methods = [node.name for node in made.body if isinstance(node, ast.FunctionDef)]
                self.assertEqual(len(methods), len(set(methods)), (path, made.name))
                attributes = {node.attr for node in ast.walk(made) if isinstance(node, ast.Attribute)
                              and isinstance(node.ctx, ast.Store)}
                self.assertFalse(attributes & set(methods), (path, made.name))
                self.assertFalse(attributes & BARRED_ATTRIBUTES, (path, made.name))
                for name in methods:
                    if name not in METHODS and not name.startswith("__"):
                        self.assertNotIn(name, BEHAVIOUR_OF_BUILTINS | BARRED_NAMES, (path, made.name))

    def test_calls_of_methods(self):
        own = self.own_names()
        for path, _, tree in self.each():
            for node in ast.walk(tree):
                if isinstance(node, ast.Call) and isinstance(node.func, ast.Attribute):
                    self.assertIn(node.func.attr, METHODS | own, (path, node.lineno))
                if isinstance(node, ast.Call):
                    self.assertIsInstance(node.func, (ast.Name, ast.Attribute), (path, node.lineno))

    def test_what_a_loop_iterates_over_is_not_modified(self):
        for path, _, tree in self.each():
            for loop in [node for node in ast.walk(tree) if isinstance(node, ast.For)]:
                for node in [node for statement in loop.body for node in ast.walk(statement)]:
                    self.assertNotIn(modified_by(node), iterated_over(loop.iter), (path, node.lineno)
                                     if hasattr(node, "lineno") else path)

    def test_views_are_iterated_at_once(self):
        for path, _, tree in self.each():
            for node in ast.walk(tree):
                if isinstance(node, (ast.Assign, ast.Return)) and isinstance(node.value, ast.Call):
                    called = node.value.func
                    name = called.id if isinstance(called, ast.Name) else called.attr
                    self.assertNotIn(name, ("range", "zip", "enumerate", "reversed", "map", "items", "keys", "values"),
                                     (path, node.lineno))

    def test_no_sets(self):
        # The rules allow sets in some places; the package does without them.
        for path, _, tree in self.each():
            for node in ast.walk(tree):
                if isinstance(node, ast.Name):
                    self.assertNotIn(node.id, ("set", "frozenset"), (path, node.lineno))

    def test_words_and_strings(self):
        for path, text, tree in self.each():
            documented = {id(node.body[0].value) for node in ast.walk(tree)
                          if isinstance(node, (ast.Module, ast.ClassDef, ast.FunctionDef)) and node.body
                          and isinstance(node.body[0], ast.Expr) and isinstance(node.body[0].value, ast.Constant)}
            for node in ast.walk(tree):
                if isinstance(node, ast.Constant) and isinstance(node.value, str):
                    self.assertNotIn("%", node.value, (path, node.lineno))
                    if id(node) not in documented:
                        self.assertFalse(set(re.findall(r"\w+", node.value)) & BARRED_WORDS, (path, node.lineno))
                        self.assertFalse(node.value.startswith("__") and node.value.endswith("__"), (path, node.lineno))
            for token in tokenize.generate_tokens(io.StringIO(text).readline):
                if token.type == tokenize.NAME:
                    self.assertNotIn(token.string, BARRED_WORDS, (path, token.start))
                if token.type == tokenize.STRING:
                    self.assertNotRegex(token.string, r"\\[^nt\\'\"]", (path, token.start))


def iterated_over(node):
    """Return the texts of the lists and dicts that a loop goes over."""
    if isinstance(node, ast.Call) and isinstance(node.func, ast.Name) and node.func.id in ("enumerate", "zip", "reversed"):
        return [text for part in node.args for text in iterated_over(part)]
    if isinstance(node, ast.Call) and isinstance(node.func, ast.Attribute) and node.func.attr in ("items", "keys", "values"):
        return iterated_over(node.func.value)
    return [ast.unparse(node)] if isinstance(node, (ast.Name, ast.Attribute, ast.Subscript)) else []


def modified_by(node):
    """Return the text of what a node modifies, by an item or by a method, or None."""
    if isinstance(node, ast.Subscript) and not isinstance(node.ctx, ast.Load):
        return ast.unparse(node.value)
    if isinstance(node, ast.Call) and isinstance(node.func, ast.Attribute) and node.func.attr in (
            "append", "clear", "extend", "insert", "pop", "remove", "reverse", "setdefault", "update", "sort"):
        return ast.unparse(node.func.value)
    return None


def bound_names(node):
    """Return the names that a node binds."""
    if isinstance(node, (ast.FunctionDef, ast.ClassDef)):
        return [] if node.name.startswith("__") else [node.name]
    if isinstance(node, ast.arg):
        return [node.arg]
    if isinstance(node, ast.Name) and isinstance(node.ctx, ast.Store):
        return [node.id]
    if isinstance(node, ast.ExceptHandler) and node.name:
        return [node.name]
    return []


if __name__ == "__main__":
    unittest.main()
