"""The rules of the language that can be seen in the code, over all files of the package.

These are narrower than the rules where the package does without something: no handlers, no sets, no generators.
"""

import ast
import builtins
import keyword
import re
import unittest
from pathlib import Path

FOLDER = Path(__file__).resolve().parent.parent / "gridwright"
FILES = {path.stem: path.read_text(encoding="utf-8") for path in sorted(FOLDER.glob("*.py"))}
TREES = {name: ast.parse(text) for name, text in FILES.items()}

BUILTINS = set(
    "len range enumerate zip min max sum abs sorted reversed int str bool list tuple dict isinstance ord repr any all "
    "divmod ValueError LookupError ArithmeticError TypeError NotImplemented property staticmethod super".split())
LIBRARY = {"math": {"gcd", "lcm", "isqrt", "comb", "perm", "factorial"},
           "itertools": {"product", "combinations", "permutations"},
           "heapq": {"heappush", "heappop", "heapify", "heapreplace", "heappushpop"}}
METHODS = set(
    "append clear copy count endswith extend find get index insert isalnum isalpha isdigit islower isspace isupper items "
    "join keys ljust lower lstrip partition pop remove replace reverse rfind rjust rpartition rsplit rstrip setdefault "
    "split splitlines startswith strip update upper values zfill bit_length isascii".split())
BARRED = set(
    "register mro elements open input law version_info with_traceback add_note attrgetter breakpoint builtins compile "
    "copyright credits delattr dir eval exec exit gc getattr globals hasattr help id importlib license locals methodcaller "
    "os quit setattr type vars sys __name__ typing typing_extensions enum Enum IntEnum StrEnum Flag IntFlag Generic "
    "Protocol ABC ABCMeta namedtuple NamedTuple TypedDict TYPE_CHECKING abstractmethod dataclass overload contextmanager "
    "format format_map args decode encode hex fromhex".split())
SPECIAL = set(
    "__init__ __eq__ __repr__ __str__ __len__ __enter__ __exit__ __call__ __iter__ __add__ __sub__ __mul__ __floordiv__ "
    "__mod__ __pow__ __radd__ __rsub__ __rmul__ __neg__ __pos__ __invert__ __abs__ __bool__ __contains__ __getitem__".split())
NODES = (
    ast.Module, ast.Expr, ast.Constant, ast.ImportFrom, ast.alias, ast.FunctionDef, ast.arguments, ast.arg, ast.ClassDef,
    ast.Assign, ast.AugAssign, ast.Return, ast.If, ast.While, ast.For, ast.Raise, ast.Break, ast.Continue, ast.Pass,
    ast.BoolOp, ast.BinOp, ast.UnaryOp, ast.Compare, ast.IfExp, ast.Call, ast.Attribute, ast.Subscript, ast.Slice,
    ast.Name, ast.List, ast.Tuple, ast.Dict, ast.ListComp, ast.DictComp, ast.comprehension, ast.JoinedStr,
    ast.FormattedValue, ast.Load, ast.Store, ast.keyword, ast.boolop, ast.unaryop, ast.cmpop, ast.With, ast.withitem,
    ast.Add, ast.Sub, ast.Mult, ast.FloorDiv, ast.Mod, ast.Pow,
)


def nodes(*classes):
    for name, tree in TREES.items():
        for node in ast.walk(tree):
            if isinstance(node, classes):
                yield name, node


def defined(name):
    """What a file defines at module level."""
    found = {}
    for node in TREES[name].body:
        if isinstance(node, (ast.FunctionDef, ast.ClassDef)):
            found[node.name] = node
        elif isinstance(node, ast.Assign):
            found[node.targets[0].id] = node
    return found


def imported(name):
    return [(node.module, alias.name) for node in TREES[name].body if isinstance(node, ast.ImportFrom)
            for alias in node.names]


def bound_names(tree):
    """The names of functions, classes, parameters and variables."""
    for node in ast.walk(tree):
        if isinstance(node, (ast.FunctionDef, ast.ClassDef)):
            yield node.name
        elif isinstance(node, ast.arg):
            yield node.arg
        elif isinstance(node, ast.Name) and isinstance(node.ctx, ast.Store):
            yield node.id


def in_iteration():
    """The statements in `__iter__`: a class with items says there that it is not iterated over."""
    return {id(one) for _, node in nodes(ast.FunctionDef) if node.name == "__iter__" for one in node.body}


def comprehensions(tree):
    return [node for node in ast.walk(tree) if isinstance(node, (ast.ListComp, ast.DictComp))]


def own_targets(node):
    """The names that a comprehension itself assigns."""
    return {one.id for part in node.generators for one in ast.walk(part.target) if isinstance(one, ast.Name)}


def methods():
    return {node.name for _, one in nodes(ast.ClassDef) for node in one.body if isinstance(node, ast.FunctionDef)}


def is_own_equality(node):
    """Whether a function is the equality of what is equal to itself alone."""
    return node.name == "__eq__" and ast.unparse(node.body[0]) == "return self is other" and len(node.body) == 1


# What changes: benches, shelves and trials, which hold their state in a list, rows that are walked on, told pivots.
KEPT = {
    ("benches", "do", "self._held"), ("benches", "undo", "self._held"), ("shelves", "undo", "self._held"),
    ("shelves", "_change", "held"), ("trials", "__exit__", "self._held"), ("unwinding", "step", "self.deeds"),
}
# What is called though it is no function by its own name: what was passed to a trial, what stands in a table.
CALLED = {
    ("benches", "action"), ("shelves", "action"), ("consoles", "answer"), ("gridclaims", "shows"), ("equationclaims", "shows"),
    ("polyclaims", "shows"), ("lookclaims", "shows"),
}


class Files(unittest.TestCase):
    def test_the_folder_contains_only_plain_files(self):
        for path in FOLDER.iterdir():
            if path.name != "__pycache__":
                self.assertRegex(path.name, r"^([a-z][a-z0-9_]*|__init__)\.py$")
        self.assertLessEqual(len(FILES), 100)
        self.assertIn("__init__", FILES)

    def test_sizes_and_characters(self):
        for name, text in FILES.items():
            rows = text.split("\n")
            self.assertLessEqual(len(rows), 400, name)
            self.assertTrue(text.endswith("\n") and not text.endswith("\n\n"), name)
            for row in rows:
                self.assertLessEqual(len(row), 120, (name, row))
                self.assertRegex(row, r"^[ -~]*$")
                self.assertEqual(row.rstrip(), row, name)
        for name, node in nodes(ast.FunctionDef):
            self.assertLessEqual(node.end_lineno - node.lineno + 1, 40, (name, node.name))

    def test_module_level(self):
        for name, tree in TREES.items():
            kinds = [type(node) for node in tree.body]
            self.assertEqual(kinds[0], ast.Expr, name)
            self.assertEqual(ast.Expr in kinds[1:], False, name)
            plain = (ast.ImportFrom, ast.FunctionDef, ast.ClassDef, ast.Assign)
            self.assertTrue(all(kind in plain for kind in kinds[1:]), name)
            last = max([k for k, kind in enumerate(kinds) if kind == ast.ImportFrom], default=0)
            self.assertTrue(all(kind == ast.ImportFrom for kind in kinds[1:last + 1]), name)
            for node in tree.body:
                if isinstance(node, ast.Assign):
                    self.assertEqual([type(one) for one in node.targets], [ast.Name])
                    self.assertFalse([one for one in ast.walk(node.value) if isinstance(one, (ast.Call, ast.ListComp))])


class Imports(unittest.TestCase):
    def test_from_the_very_file_that_defines_the_name(self):
        for name in FILES:
            for module, one in imported(name):
                if module in LIBRARY:
                    self.assertIn(one, LIBRARY[module])
                else:
                    self.assertTrue(module.startswith("gridwright."), (name, module))
                    self.assertIn(one, defined(module.partition(".")[2]), (name, module))

    def test_each_import_is_used_and_has_its_own_name(self):
        for _, node in nodes(ast.ImportFrom):
            self.assertEqual([node.level, [one.asname for one in node.names]], [0, [None] * len(node.names)])
        for name in FILES:
            own = [one for _, one in imported(name)]
            used = {node.id for node in ast.walk(TREES[name]) if isinstance(node, ast.Name)}
            self.assertEqual(len(own + list(defined(name))), len(set(own + list(defined(name)))), name)
            self.assertLessEqual(set(own), used, name)

    def test_no_two_files_need_each_other(self):
        needed = {name: {module.partition(".")[2] for module, _ in imported(name) if module not in LIBRARY} for name in FILES}
        for _ in FILES:
            # Over others, too: in as many steps as there are files nothing is left out.
            needed = {name: own.union(*[needed[one] for one in own]) for name, own in needed.items()}
        for name, own in needed.items():
            self.assertNotIn(name, own)


class Words(unittest.TestCase):
    def test_only_parts_of_the_subset(self):
        for name, tree in TREES.items():
            for node in ast.walk(tree):
                self.assertIsInstance(node, NODES, (name, getattr(node, "lineno", 0)))

    def test_builtins(self):
        for name, tree in TREES.items():
            own = set(defined(name)) | {one for _, one in imported(name)} | set(bound_names(tree))
            for node in ast.walk(tree):
                if isinstance(node, ast.Name) and node.id not in own:
                    self.assertIn(node.id, BUILTINS, (name, node.lineno))

    def test_names(self):
        taken = set(vars(builtins))
        for name, tree in TREES.items():
            classes_and_imports = {one for _, one in imported(name)}
            classes_and_imports |= {k for k, node in defined(name).items() if isinstance(node, ast.ClassDef)}
            top = set(defined(name))
            for one in bound_names(tree):
                if one in SPECIAL or one == "_":
                    continue
                self.assertRegex(one, r"^_?[A-Za-z][A-Za-z0-9_]*$")
                self.assertNotIn(one, taken, name)
                self.assertNotIn(one, BARRED, name)
                self.assertFalse(keyword.issoftkeyword(one), (name, one))
                self.assertFalse(re.match("_wall|_pe_|_dcw_|_enum_|_cm_|_lay_|_law_|_stub_|_sre|_cold|_outside|_record", one))
                self.assertTrue(one not in classes_and_imports or one in top, (name, one))

    def test_underscore_alone_is_never_read(self):
        for name, node in nodes(ast.Name):
            if node.id == "_":
                self.assertIsInstance(node.ctx, ast.Store, (name, node.lineno))

    def test_attributes_and_methods(self):
        own = methods()
        read = {node.attr for _, node in nodes(ast.Attribute) if isinstance(node.ctx, ast.Load)}
        stored = {node.attr for _, node in nodes(ast.Attribute) if isinstance(node.ctx, ast.Store)}
        self.assertLessEqual(read, METHODS | own | stored)
        self.assertFalse((read | stored | own) & BARRED)
        for name, node in nodes(ast.Attribute):
            if isinstance(node.ctx, ast.Store):
                self.assertEqual(node.value.id, "self", (name, node.lineno))
        self.assertFalse(own & stored)

    def test_no_barred_words_in_strings(self):
        documented = {id(node.body[0].value) for _, node in nodes(ast.Module, ast.ClassDef, ast.FunctionDef)
                      if isinstance(node.body[0], ast.Expr)}
        for name, node in nodes(ast.Constant):
            if isinstance(node.value, str) and id(node) not in documented:
                self.assertNotIn("%", node.value, name)
                # A claim of the document has this word, which only names must not have.
                self.assertFalse(set(re.findall(r"\w+", node.value)) & BARRED - {"open"}, (name, node.value))
                self.assertNotIn("__", node.value)
            self.assertNotIsInstance(node.value, (float, complex, bytes))


    def test_words_that_a_package_with_items_has_nowhere(self):
        for name, text in FILES.items():
            self.assertNotRegex(text, r"\(type\)|Meta|metaclass=|_wall|_WallAttr", name)

    def test_the_library_is_only_called(self):
        for name, tree in TREES.items():
            taken = {one for module, one in imported(name) if module in LIBRARY}
            called = {id(node.func) for node in ast.walk(tree) if isinstance(node, ast.Call)}
            for node in ast.walk(tree):
                if isinstance(node, ast.Name) and node.id in taken:
                    self.assertIn(id(node), called, (name, node.lineno))
            # Grids have a length and an `__iter__`, beside which products, combinations and orders do not stand.
            self.assertNotIn("itertools", [module for module, _ in imported(name)])


class Statements(unittest.TestCase):
    def test_decorators(self):
        for name, node in nodes(ast.FunctionDef, ast.ClassDef):
            for one in node.decorator_list:
                self.assertIn(one.id, ("property", "staticmethod"), name)
        top = [node for tree in TREES.values() for node in tree.body]
        for _, node in nodes(ast.FunctionDef):
            if node.decorator_list:
                self.assertFalse(node in top)

    def test_double_underscore_methods(self):
        for name, one in nodes(ast.ClassDef):
            for node in one.body:
                if isinstance(node, ast.FunctionDef) and node.name.startswith("__"):
                    self.assertIn(node.name, SPECIAL)
                    names = [arg.arg for arg in node.args.args]
                    alone = ("__neg__", "__abs__", "__bool__", "__len__", "__iter__", "__enter__")
                    second = {"__getitem__": ["at"], "__contains__": ["x"], "__exit__": ["kind", "value", "trace"]}
                    if node.name != "__init__":
                        behind = [] if node.name in alone else second.get(node.name, ["other"])
                        self.assertEqual(names, ["self", *behind], name)
                elif isinstance(node, ast.Expr):
                    self.assertIs(node, one.body[0])
                else:
                    self.assertIsInstance(node, ast.FunctionDef, name)

    def test_not_implemented_is_only_returned_by_signs(self):
        returned = 0
        for name, node in nodes(ast.FunctionDef):
            for one in ast.walk(node):
                if isinstance(one, ast.Return) and isinstance(one.value, ast.Name) and one.value.id == "NotImplemented":
                    self.assertRegex(node.name, "^__r?(add|sub|mul|floordiv|mod|pow)__$", name)
                    returned += 1
        self.assertEqual(len([0 for _, node in nodes(ast.Name) if node.id == "NotImplemented"]), returned)

    def test_is_only_with_none_true_and_false(self):
        alone = {id(one.body[0].value) for _, one in nodes(ast.FunctionDef) if is_own_equality(one)}
        for name, node in nodes(ast.Compare):
            for sign, side in zip(node.ops, node.comparators):
                if isinstance(sign, (ast.Is, ast.IsNot)) and id(node) not in alone:
                    self.assertIn(side.value, (None, True, False), (name, node.lineno))

    def test_plain_steps_only(self):
        for name, node in nodes(ast.AugAssign):
            # With signs of our own, `+=` of anything else could change what is given.
            self.assertTrue(isinstance(node.op, ast.Add) and isinstance(node.target, ast.Name), (name, node.lineno))
            self.assertEqual(type(node.value.value), int)
        for name, node in nodes(ast.BinOp):
            if isinstance(node.op, ast.Pow):
                self.assertTrue(0 <= node.right.value <= 64, (name, node.lineno))

    def test_a_class_with_items_is_not_iterated_over(self):
        for name, one in nodes(ast.ClassDef):
            own = {node.name: node for node in one.body if isinstance(node, ast.FunctionDef)}
            self.assertEqual("__getitem__" in own, "__iter__" in own, (name, one.name))
            if "__iter__" in own:
                self.assertEqual([type(node) for node in own["__iter__"].body], [ast.Raise])
                self.assertEqual(own["__iter__"].body[0].exc.func.id, "TypeError")

    def test_truth_and_length_are_told_in_few_forms(self):
        for name, node in nodes(ast.FunctionDef):
            if node.name in ("__bool__", "__len__"):
                self.assertIsInstance(node.body[-1], ast.Return, name)
                forms = ("len",) if node.name == "__len__" else ("bool", "any", "all")
                for one in ast.walk(node):
                    if isinstance(one, ast.Return) and not (node.name == "__bool__" and isinstance(one.value, ast.Constant)):
                        self.assertIn(one.value.func.id, forms, name)

    def test_equality_asks_for_the_class_first(self):
        for name, node in nodes(ast.FunctionDef):
            if node.name == "__eq__" and not is_own_equality(node):
                self.assertEqual([type(one) for one in node.body], [ast.Return], name)
                first = node.body[0].value.values[0]
                self.assertEqual([first.func.id, first.args[0].id], ["isinstance", "other"], name)

    def test_inner_comprehensions_have_names_of_their_own(self):
        for name, function in nodes(ast.FunctionDef):
            for node in comprehensions(function):
                for inner in comprehensions(node):
                    if inner is not node:
                        self.assertFalse((own_targets(node) & own_targets(inner)) - {"_"}, (name, inner.lineno))
                        taken = {arg.arg for arg in function.args.args}
                        taken |= {one.id for part in ast.walk(function) if isinstance(part, (ast.Assign, ast.For))
                                  for target in getattr(part, "targets", [getattr(part, "target", None)])
                                  for one in ast.walk(target) if isinstance(one, ast.Name)}
                        self.assertFalse((taken & own_targets(inner)) - {"_"}, (name, inner.lineno))

    def test_raised_errors_are_made_on_the_spot(self):
        spoken_of = in_iteration()
        for name, node in nodes(ast.Raise):
            self.assertIsInstance(node.exc, ast.Call, (name, node.lineno))
            if id(node) not in spoken_of:
                self.assertIn(node.exc.func.id, defined("errors"))
            self.assertIsNone(node.cause)

    def test_calls_have_no_keywords_and_no_stars(self):
        for name, node in nodes(ast.Call):
            self.assertFalse(node.keywords, (name, node.lineno))
            self.assertFalse([one for one in node.args if isinstance(one, ast.Starred)], (name, node.lineno))

    def test_items_are_changed_only_of_lists_that_the_function_made(self):
        for name, node in nodes(ast.FunctionDef):
            made = {one.targets[0].id for one in ast.walk(node) if isinstance(one, ast.Assign)
                    and isinstance(one.targets[0], ast.Name)
                    and (isinstance(one.value, (ast.List, ast.ListComp, ast.Dict))
                         or isinstance(one.value, ast.Call) and getattr(one.value.func, "id", "") == "list")}
            for one in ast.walk(node):
                if isinstance(one, ast.Subscript) and isinstance(one.ctx, ast.Store) or (
                        isinstance(one, ast.Attribute) and one.attr in ("append", "clear", "pop")):
                    held = ast.unparse(one.value)
                    self.assertTrue(held in made or (name, node.name, held) in KEPT, (name, node.name, held))

    def test_nothing_that_is_passed_is_called(self):
        own = methods()
        for name, tree in TREES.items():
            known = BUILTINS | set(defined(name)) | {one for _, one in imported(name)}
            for node in ast.walk(tree):
                if isinstance(node, ast.Call) and isinstance(node.func, ast.Name):
                    self.assertTrue(node.func.id in known or (name, node.func.id) in CALLED, (name, node.lineno))
                elif isinstance(node, ast.Call):
                    self.assertIsInstance(node.func, ast.Attribute, (name, node.lineno))
                    self.assertIn(node.func.attr, METHODS | own, (name, node.lineno))

    def test_what_a_with_statement_ends_with(self):
        # Of the rows that the rules allow there these are enough.
        rows = ("self._held.clear()", "self._held.append(self._kept.state)", "self._kept = self._kept.earlier")
        for name, node in nodes(ast.FunctionDef):
            if node.name == "__exit__":
                for one in node.body:
                    inner = one.body if isinstance(one, ast.If) else [one]
                    self.assertLessEqual({ast.unparse(row) for row in inner}, set(rows), name)
                    if isinstance(one, ast.If):
                        self.assertEqual([ast.unparse(one.test), one.orelse], ["kind is not None", []])
        for name, node in nodes(ast.With):
            self.assertEqual([ast.unparse(item.context_expr) for item in node.items], ["self.trial()"], name)
            self.assertIsInstance(node.items[0].optional_vars, ast.Name)

    def test_tables_of_functions_are_read_by_an_index(self):
        for name, tree in TREES.items():
            tables = {one for one, node in defined(name).items() if isinstance(node, ast.Assign) and isinstance(node.value, ast.Dict)}
            read = {id(node.value) for node in ast.walk(tree) if isinstance(node, ast.Subscript)}
            read |= {id(side) for node in ast.walk(tree) if isinstance(node, ast.Compare) for side in node.comparators}
            for node in ast.walk(tree):
                if isinstance(node, ast.Name) and node.id in tables and isinstance(node.ctx, ast.Load):
                    self.assertIn(id(node), read, (name, node.lineno))

    def test_no_method_is_read_off_a_class(self):
        classes = {node.name for _, node in nodes(ast.ClassDef)}
        for name, node in nodes(ast.Attribute):
            self.assertFalse(isinstance(node.value, ast.Name) and node.value.id in classes, (name, node.lineno))
