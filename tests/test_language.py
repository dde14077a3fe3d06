"""The form of the code: those rules of the language's subset that can be read off the files."""

import ast
import builtins
import os
import re
import string
import unittest

FOLDER = os.path.join(os.path.dirname(os.path.dirname(os.path.abspath(__file__))), "streamstack")
BUILTINS = """len range enumerate zip min max sum abs sorted reversed int str bool list tuple dict set isinstance ord
repr any all divmod Exception ValueError TypeError KeyError IndexError LookupError""".split()
VALUE_METHODS = """append clear copy count endswith extend find get index insert isalnum isalpha isdigit islower isspace
isupper items join keys ljust lower lstrip partition pop remove replace reverse rfind rjust rpartition rsplit rstrip
setdefault split splitlines startswith strip update upper values zfill bit_length""".split()
BARRED_NAMES = """mro elements open input law version_info with_traceback add_note register attrgetter breakpoint
builtins compile copyright credits delattr dir eval exec exit gc getattr globals hasattr help id importlib license
locals methodcaller os quit setattr super type vars sys""".split()
BARRED_WORDS = """type typing typing_extensions enum Enum IntEnum StrEnum Flag IntFlag Generic Protocol ABC ABCMeta
namedtuple NamedTuple TypedDict TYPE_CHECKING abstractmethod""".split()
BARRED_ATTRIBUTES = """items keys values pop update append clear extend insert remove reverse setdefault sort args
encode decode hex fromhex format""".split()
NODES = (ast.Global, ast.AsyncFunctionDef, ast.Await, ast.Yield, ast.YieldFrom, ast.Set, ast.SetComp, ast.With,
         ast.Match, ast.Nonlocal, ast.NamedExpr, ast.Import, ast.Starred)


def files():
    return sorted(name for name in os.listdir(FOLDER) if name != "__pycache__")


def text_of(name):
    with open(os.path.join(FOLDER, name), encoding="utf-8", newline="") as file:
        return file.read()


def bound_names(tree):
    """Return the names that a function, a lambda or a module binds, of those below it, too."""
    found = set()
    for node in ast.walk(tree):
        if isinstance(node, ast.arg):
            found.add(node.arg)
        elif isinstance(node, ast.Name) and isinstance(node.ctx, ast.Store):
            found.add(node.id)
        elif isinstance(node, (ast.FunctionDef, ast.ClassDef)):
            found.add(node.name)
        elif isinstance(node, ast.ImportFrom):
            found.update(one.name for one in node.names)
        elif isinstance(node, ast.ExceptHandler) and node.name:
            found.add(node.name)
    return found


class Language(unittest.TestCase):
    @classmethod
    def setUpClass(cls):
        cls.texts = {name: text_of(name) for name in files()}
        cls.trees = {name: ast.parse(text) for name, text in cls.texts.items()}
        cls.nodes = [(name, node) for name, tree in cls.trees.items() for node in ast.walk(tree)]
        classes = [node for _, node in cls.nodes if isinstance(node, ast.ClassDef)]
        cls.methods = {one.name for node in classes for one in node.body if isinstance(one, ast.FunctionDef)}

    def places(self, found):
        self.assertEqual([], [(name, getattr(node, "lineno", 0)) for name, node in found])

    def test_l1_files(self):
        self.assertIn("__init__.py", files())
        for name in files():
            self.assertRegex(name, r"^(__init__|[a-z][a-z0-9_]*)\.py$")

    def test_l10_and_l14_sizes_and_characters(self):
        allowed = set(string.printable) - set("\t\r\x0b\x0c")
        for name, text in self.texts.items():
            lines = text.split("\n")
            self.assertLessEqual(len(lines), 399, name)
            self.assertLessEqual(max(len(line) for line in lines), 120, name)
            self.assertEqual(set(text) - allowed, set(), name)
        for name, node in self.nodes:
            if isinstance(node, ast.FunctionDef):
                self.assertLessEqual(node.end_lineno - node.lineno + 1, 40, (name, node.name))

    def test_l2_and_l16_imports(self):
        reads = {}
        for name, node in self.nodes:
            if isinstance(node, ast.ImportFrom):
                self.assertRegex(node.module, r"^streamstack\.[a-z]+$")
                target = node.module.split(".")[1] + ".py"
                reads.setdefault(name, set()).add(target)
                own = {one.name for one in self.trees[target].body if isinstance(one, (ast.FunctionDef, ast.ClassDef))}
                own |= {one.targets[0].id for one in self.trees[target].body if isinstance(one, ast.Assign)}
                for one in node.names:
                    self.assertIsNone(one.asname)
                    self.assertIn(one.name, own)
                    used = [n for n in ast.walk(self.trees[name]) if isinstance(n, ast.Name) and n.id == one.name]
                    self.assertTrue(used, (name, one.name, "is not used"))
        for _ in self.trees:
            free = [name for name in reads if not any(target in reads for target in reads[name])]
            for name in free:
                del reads[name]
        self.assertEqual(reads, {}, "files import from each other")

    def test_l3_module_level(self):
        for name, tree in self.trees.items():
            self.assertIsNotNone(ast.get_docstring(tree), name)
            for node in tree.body[1:]:
                self.assertIsInstance(node, (ast.ImportFrom, ast.FunctionDef, ast.ClassDef, ast.Assign), name)
                if isinstance(node, ast.Assign):
                    ast.literal_eval(node.value)

    def test_l4_to_l7_statements_and_expressions(self):
        self.places((name, node) for name, node in self.nodes if isinstance(node, NODES))
        for name, node in self.nodes:
            if isinstance(node, (ast.FunctionDef, ast.ClassDef)):
                self.assertEqual(node.decorator_list, [], (name, node.name))
                self.assertIsNotNone(ast.get_docstring(node) or node.name == "__init__" or None, (name, node.name))
                self.assertRegex(node.name, r"^([A-Za-z][A-Za-z0-9_]*|__init__)$")
            if isinstance(node, ast.Constant):
                self.assertNotIsInstance(node.value, (float, complex, bytes))
            if isinstance(node, ast.BinOp):
                self.assertNotIsInstance(node.op, (ast.Div, ast.MatMult, ast.Pow))
            if isinstance(node, ast.Compare):
                for sign, other in zip(node.ops, node.comparators):
                    if isinstance(sign, (ast.Is, ast.IsNot)):
                        self.assertIn(getattr(other, "value", 0), (None, True, False))

    def test_l5_methods_and_attributes(self):
        stored = {node.attr for _, node in self.nodes
                  if isinstance(node, ast.Attribute) and isinstance(node.ctx, ast.Store)}
        self.assertEqual(stored & set(BARRED_ATTRIBUTES), set())
        called = {id(node.func) for _, node in self.nodes if isinstance(node, ast.Call)}
        for name, node in self.nodes:
            if isinstance(node, ast.Attribute) and id(node) in called:
                self.assertIn(node.attr, self.methods | set(VALUE_METHODS), (name, node.lineno))
            elif isinstance(node, ast.Attribute):
                self.assertIn(node.attr, stored, (name, node.lineno))
        for name, node in self.nodes:
            if isinstance(node, ast.ClassDef):
                methods = [one.name for one in node.body if isinstance(one, ast.FunctionDef)]
                own = {one.attr for one in ast.walk(node) if isinstance(one, ast.Attribute)
                       and isinstance(one.ctx, ast.Store) and getattr(one.value, "id", "") == "self"}
                self.assertEqual(own & set(methods), set(), (name, node.name))
                self.assertEqual(len(set(methods)), len(methods), (name, node.name))

    def test_l18_attributes_are_assigned_through_a_local_name(self):
        self.places((name, node) for name, node in self.nodes if isinstance(node, ast.Attribute)
                    and isinstance(node.ctx, ast.Store) and not isinstance(node.value, ast.Name))

    def test_l23_what_a_loop_iterates_over_is_not_modified_in_it(self):
        modifying = "append clear extend insert pop remove reverse setdefault update add discard put".split()
        for name, loop in self.nodes:
            if isinstance(loop, ast.For):
                changed = set()
                for node in ast.walk(ast.Module(loop.body, [])):
                    if isinstance(node, ast.Call) and getattr(node.func, "attr", "") in modifying:
                        changed.add(ast.unparse(node.func.value))
                    elif isinstance(node, ast.Subscript) and not isinstance(node.ctx, ast.Load):
                        changed.add(ast.unparse(node.value))
                    elif isinstance(node, (ast.Attribute, ast.Name)) and isinstance(node.ctx, ast.Store):
                        changed.add(ast.unparse(node))
                read = {ast.unparse(node) for node in ast.walk(loop.iter) if isinstance(node, (ast.Attribute, ast.Name))
                        and not ast.unparse(node) in ("self", "list", "range")}
                if not ast.unparse(loop.iter).startswith(("list(", "sorted(")):
                    self.assertEqual(read & changed, set(), (name, loop.lineno))

    def test_l8_builtins(self):
        for name, tree in self.trees.items():
            bound = bound_names(tree)
            for node in ast.walk(tree):
                if isinstance(node, ast.Name) and isinstance(node.ctx, ast.Load) and node.id not in bound:
                    self.assertIn(node.id, BUILTINS, (name, node.lineno))

    def test_l12_and_l15_names(self):
        for name, tree in self.trees.items():
            tops = {node.name for node in tree.body if isinstance(node, ast.ClassDef)}
            tops |= {one.name for node in tree.body if isinstance(node, ast.ImportFrom) for one in node.names}
            for node in ast.walk(tree):
                if isinstance(node, (ast.FunctionDef, ast.Lambda)):
                    inner = bound_names(node) - {getattr(node, "name", "")}
                    self.assertEqual(inner & tops, set(), (name, node.lineno))
            methods = {one.name for node in tree.body if isinstance(node, ast.ClassDef) for one in node.body
                       if isinstance(one, ast.FunctionDef)}
            for bound in bound_names(tree) - methods:
                self.assertFalse(hasattr(builtins, bound), (name, bound))
                self.assertNotIn(bound, BARRED_NAMES, name)
                self.assertRegex(bound, r"^(_|[A-Za-z][A-Za-z0-9_]*)$")
                self.assertFalse(bound.startswith("_") and bound != "_", (name, bound))

    def test_l13_lambdas(self):
        found = [(name, node.lineno) for name, node in self.nodes if isinstance(node, ast.Lambda)]
        self.assertEqual(len(set(found)), len(found))

    def test_l17_and_l27_strings(self):
        for name, tree in self.trees.items():
            docs = {id(node.body[0].value) for node in ast.walk(tree)
                    if isinstance(node, (ast.Module, ast.FunctionDef, ast.ClassDef)) and ast.get_docstring(node)}
            for node in ast.walk(tree):
                if isinstance(node, ast.Constant) and isinstance(node.value, str) and id(node) not in docs:
                    self.assertNotIn(chr(37), node.value, (name, node.lineno))
                    self.assertNotRegex(node.value, r"__|\._$", (name, node.lineno))
            for word in BARRED_WORDS:
                self.assertIsNone(re.search(r"\b" + word + r"\b", self.texts[name]), (name, word))

    def test_l19_handlers_name_own_errors(self):
        own = {node.name for node in self.trees["errors.py"].body if isinstance(node, ast.ClassDef)}
        for name, node in self.nodes:
            if isinstance(node, ast.ExceptHandler):
                self.assertIn(getattr(node.type, "id", ""), own, (name, node.lineno))
            if isinstance(node, ast.Raise) and node.exc is not None:
                self.assertIn(node.exc.func.id, own, (name, node.lineno))


if __name__ == "__main__":
    unittest.main()
