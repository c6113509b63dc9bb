"""What the rules of the language subset bar, as far as it can be seen in single files of the package.

It is narrower than the rules in places: what the package does not need yet is barred here, too.
"""

import ast
import builtins
import pathlib
import re
import unittest
import warnings

PACKAGE = pathlib.Path(__file__).resolve().parent.parent / "staysdeep"
FILES = sorted(PACKAGE.rglob("*.py"))
# `_` is put there by an interactive session, or a doctest.
TAKEN = set(dir(builtins)) - {"_"}

LIBRARY = {
    "heapq": "heappush heappop heapify heapreplace heappushpop", "math": "gcd lcm isqrt comb perm factorial",
    "itertools": "product combinations permutations chain accumulate pairwise islice zip_longest",
    "collections": "defaultdict",
}
BUILTINS = set(
    "len range enumerate zip min max sum abs sorted reversed int str bool list tuple dict set isinstance ord repr any "
    "all divmod pow map iter next Exception ValueError TypeError KeyError IndexError LookupError ZeroDivisionError "
    "ArithmeticError OverflowError RuntimeError NotImplementedError NotImplemented".split()
)
METHODS = set(
    "append clear copy count endswith extend find get index insert isalnum isalpha isdigit islower isspace isupper "
    "items join keys ljust lower lstrip partition pop remove replace reverse rfind rjust rpartition rsplit rstrip "
    "setdefault split splitlines startswith strip update upper values zfill bit_length title capitalize swapcase "
    "casefold center expandtabs removeprefix removesuffix rindex isascii isdecimal isnumeric istitle isidentifier "
    "isprintable translate add discard".split()
)
DOUBLE = set("__init__ __eq__ __repr__ __str__ __len__".split())
BARRED_NODES = (
    ast.GeneratorExp, ast.Global, ast.AsyncFunctionDef, ast.AsyncFor, ast.AsyncWith, ast.Await, ast.Div, ast.MatMult,
)
BARRED_NAMES = set(
    "register mro elements open input law version_info with_traceback add_note attrgetter breakpoint builtins compile "
    "copyright credits delattr dir eval exec exit gc globals help id importlib license locals methodcaller os quit "
    "super type vars sys args format format_map".split()
)
BARRED_WORDS = re.compile(
    r"\b(type|typing|typing_extensions|enum|Enum|IntEnum|StrEnum|Flag|IntFlag|Generic|Protocol|ABC|ABCMeta|namedtuple"
    r"|NamedTuple|TypedDict|TYPE_CHECKING|abstractmethod)\b|dataclass|overload|contextmanager"
)
CHANGING = set("append clear extend insert pop remove reverse setdefault update sort add discard".split())
BARRED_STARTS = ("_wall", "_pe_", "_dcw_", "_enum_", "_cm_", "_twin_re_", "_lay_", "_law_", "_stub_", "_sre", "__")


def trees():
    return [(path, ast.parse(path.read_text(encoding="utf-8"))) for path in FILES]


def is_doc(node):
    return isinstance(node, ast.Expr) and isinstance(node.value, ast.Constant) and isinstance(node.value.value, str)


def bound_names(tree):
    """All names that a file gives to variables, parameters, functions and classes."""
    names = set()
    for node in ast.walk(tree):
        if isinstance(node, ast.Name) and isinstance(node.ctx, ast.Store):
            names.add(node.id)
        elif isinstance(node, ast.arg):
            names.add(node.arg)
        elif isinstance(node, (ast.FunctionDef, ast.ClassDef)):
            names.add(node.name)
    return names


def defined_names(tree):
    """The names that a file binds at module level, but for imports."""
    names = []
    for node in tree.body:
        if isinstance(node, (ast.FunctionDef, ast.ClassDef)):
            names.append(node.name)
        elif isinstance(node, ast.Assign):
            names.extend([target.id for target in node.targets])
    return names


def imported_names(tree):
    return [alias.name for node in tree.body if isinstance(node, ast.ImportFrom) for alias in node.names]


def library_names(tree):
    froms = [node for node in tree.body if isinstance(node, ast.ImportFrom) and node.module in LIBRARY]
    return [alias.name for node in froms for alias in node.names]


def functions_of(tree):
    return [node for node in ast.walk(tree) if isinstance(node, ast.FunctionDef)]


def parents_of(tree):
    return {child: node for node in ast.walk(tree) for child in ast.iter_child_nodes(node)}


def called_name(node):
    """The bare name that is called, or the empty string."""
    return node.func.id if isinstance(node, ast.Call) and isinstance(node.func, ast.Name) else ""


def is_set(node):
    return isinstance(node, (ast.Set, ast.SetComp)) or called_name(node) == "set"


def is_iterated_at_once(node):
    """Whether this is a call of what the rules let stand only where it is gone over on the spot."""
    if not isinstance(node, ast.Call):
        return False
    if isinstance(node.func, ast.Attribute):
        return node.func.attr in ("items", "keys", "values")
    return called_name(node) in ("zip", "enumerate", "reversed", "range", "map", "iter")


def is_test_of_range(node, inner):
    """Whether a node asks by `in` for a thing of a range, or takes one by its index."""
    if isinstance(node, ast.Subscript):
        return node.value is inner
    return isinstance(node, ast.Compare) and inner in node.comparators and isinstance(node.ops[0], (ast.In, ast.NotIn))


def changed_names(statements):
    """The names of what is changed in some statements: by an item, or by a method that changes."""
    names = set()
    for node in [inner for statement in statements for inner in ast.walk(statement)]:
        if isinstance(node, ast.Subscript) and not isinstance(node.ctx, ast.Load):
            names.add(ast.unparse(node.value))
        if isinstance(node, ast.Call) and isinstance(node.func, ast.Attribute) and node.func.attr in CHANGING:
            names.add(ast.unparse(node.func.value))
    return names


class TestFiles(unittest.TestCase):

    def test_the_folder_holds_only_python_files(self):
        held = [path for path in PACKAGE.rglob("*") if "__pycache__" not in path.parts]
        self.assertTrue(FILES)
        for path in held:
            self.assertTrue(path.is_dir() or path in FILES, path)
            self.assertRegex(path.stem, r"^[a-z][a-z0-9_]*$|^__init__$|^__main__$")
            self.assertNotIn(path.stem, TAKEN)
        self.assertIn(PACKAGE / "__init__.py", FILES)
        self.assertLessEqual(len(FILES), 100)

    def test_signs_and_lines(self):
        for path in FILES:
            text = path.read_bytes().decode("ascii")
            self.assertLessEqual(set(text), set(map(chr, range(32, 127))) | {"\n"}, path)
            lines = text.split("\n")
            self.assertLessEqual(len(lines), 400, path)
            self.assertLessEqual(max(map(len, lines)), 120, path)

    def test_functions_have_at_most_40_lines(self):
        for path, tree in trees():
            for node in ast.walk(tree):
                if isinstance(node, (ast.FunctionDef, ast.Lambda)):
                    self.assertLessEqual(node.end_lineno - node.lineno + 1, 40, (path, node.lineno))

    def test_no_warnings(self):
        for path in FILES:
            with warnings.catch_warnings():
                warnings.simplefilter("error")
                compile(path.read_text(encoding="utf-8"), str(path), "exec")


class TestModules(unittest.TestCase):

    def test_module_level(self):
        plain = (ast.ImportFrom, ast.FunctionDef, ast.ClassDef, ast.Assign)
        for path, tree in trees():
            for node in tree.body:
                self.assertTrue(is_doc(node) or isinstance(node, plain), (path, node.lineno))
                if isinstance(node, ast.Assign):
                    self.check_plain(node, tree)
            names = defined_names(tree) + imported_names(tree)
            self.assertEqual(len(names), len(set(names)), path)

    def check_plain(self, node, tree):
        """A plain value, or a dict of functions that are defined above it."""
        values = node.value.values if isinstance(node.value, ast.Dict) else [node.value]
        above = [other.name for other in tree.body if isinstance(other, ast.FunctionDef) and other.lineno < node.lineno]
        for value in values:
            if not isinstance(value, ast.Name):
                ast.literal_eval(value)
            else:
                self.assertIn(value.id, above)

    def test_imports(self):
        defined = {path.stem: defined_names(tree) for path, tree in trees()}
        for path, tree in trees():
            for node in ast.walk(tree):
                self.assertNotIsInstance(node, ast.Import, path)
                if not isinstance(node, ast.ImportFrom):
                    continue
                self.assertEqual((node.level, node.col_offset), (0, 0), path)
                known = LIBRARY.get(node.module, "").split()
                if node.module.startswith("staysdeep."):
                    known = defined[node.module.partition(".")[2]]
                for alias in node.names:
                    self.assertIn(alias.name, known, path)
                    self.assertIsNone(alias.asname, path)

    def test_no_circles(self):
        needs = {}
        for path, tree in trees():
            modules = [node.module for node in tree.body if isinstance(node, ast.ImportFrom)]
            needs[path.stem] = {module.partition(".")[2] for module in modules if module.startswith("staysdeep.")}
        while needs:
            free = [name for name in needs if not needs[name]]
            self.assertTrue(free, needs)
            needs = {name: needs[name] - set(free) for name in needs if name not in free}


class TestCode(unittest.TestCase):

    def test_statements_and_expressions(self):
        for path, tree in trees():
            for node in ast.walk(tree):
                where = (path, getattr(node, "lineno", 0))
                self.assertNotIsInstance(node, BARRED_NODES, where)
                if isinstance(node, ast.Constant):
                    self.assertNotIsInstance(node.value, (float, complex), where)
                if isinstance(node, (ast.FunctionDef, ast.ClassDef)):
                    self.assertEqual(node.decorator_list, [], where)
                if isinstance(node, ast.Compare):
                    self.check_is(node, where)

    def check_is(self, node, where):
        for sign, side in zip(node.ops, node.comparators):
            if isinstance(sign, (ast.Is, ast.IsNot)):
                self.assertTrue(isinstance(side, ast.Constant) and side.value in (None, True, False), where)

    def test_names(self):
        for path, tree in trees():
            for name in bound_names(tree) - DOUBLE:
                self.assertRegex(name, r"^_?[A-Za-z][A-Za-z0-9_]*$|^_$", path)
                self.assertNotIn(name, TAKEN, path)
                self.assertNotIn(name, BARRED_NAMES, path)
                self.assertFalse(name.startswith(BARRED_STARTS), (path, name))

    def test_no_local_name_is_that_of_an_import_or_a_class(self):
        for path, tree in trees():
            classes = [node.name for node in tree.body if isinstance(node, ast.ClassDef)]
            for function in ast.walk(tree):
                if isinstance(function, ast.FunctionDef):
                    local = bound_names(function)
                    self.assertFalse(local & set(classes + imported_names(tree)), (path, function.name))

    def test_read_names(self):
        for path, tree in trees():
            known = bound_names(tree) | set(imported_names(tree)) | BUILTINS
            for node in ast.walk(tree):
                if isinstance(node, ast.Name) and isinstance(node.ctx, ast.Load):
                    self.assertIn(node.id, known, (path, node.lineno))
                    self.assertNotEqual(node.id, "_", (path, node.lineno))

    def test_methods_and_attributes(self):
        own = {node.attr for _, tree in trees() for node in ast.walk(tree)
               if isinstance(node, ast.Attribute) and isinstance(node.ctx, ast.Store)}
        for _, tree in trees():
            for node in ast.walk(tree):
                if isinstance(node, ast.ClassDef):
                    own |= {method.name for method in node.body if isinstance(method, ast.FunctionDef)}
        self.assertFalse(own & (BARRED_NAMES | METHODS))
        for path, tree in trees():
            for node in ast.walk(tree):
                if isinstance(node, ast.Attribute):
                    self.assertIn(node.attr, own | METHODS, (path, node.lineno))

    def test_keywords_of_builtins(self):
        allowed = {"sorted": "key reverse", "min": "key default", "max": "key default", "sum": "start",
                   "enumerate": "start", "zip": "strict"}
        for path, tree in trees():
            for node in ast.walk(tree):
                if isinstance(node, ast.Call) and isinstance(node.func, ast.Name) and node.func.id in BUILTINS:
                    for keyword in node.keywords:
                        self.assertIn(keyword.arg, allowed.get(node.func.id, "").split(), (path, node.lineno))

    def test_strings(self):
        for path, tree in trees():
            docs = [node.body[0].value for node in ast.walk(tree)
                    if isinstance(node, (ast.Module, ast.ClassDef, ast.FunctionDef)) and node.body and is_doc(node.body[0])]
            for node in ast.walk(tree):
                if isinstance(node, ast.Constant) and isinstance(node.value, str):
                    self.assertNotIn("%", node.value, (path, node.lineno))
                    if node not in docs:
                        self.assertIsNone(BARRED_WORDS.search(node.value), (path, node.lineno))
                        self.assertNotIn("__", node.value, (path, node.lineno))

    def test_what_is_iterated_at_once(self):
        takers = "list tuple dict sorted sum any all enumerate zip min max join reversed len".split()
        for path, tree in trees():
            parents = parents_of(tree)
            for node in [node for node in ast.walk(tree) if is_iterated_at_once(node)]:
                above, where = parents[node], (path, node.lineno)
                if isinstance(above, ast.Assign):
                    self.check_kept(above, parents, where)
                elif isinstance(above, ast.Call):
                    self.assertIn(getattr(above.func, "id", getattr(above.func, "attr", "")), takers, where)
                else:
                    at_once = isinstance(above, (ast.For, ast.comprehension)) and above.iter is node
                    self.assertTrue(at_once or is_test_of_range(above, node), where)

    def check_kept(self, assignment, parents, where):
        """A range or the like that is kept: by a plain local name, which is then only gone over or asked."""
        self.assertEqual([target.__class__ for target in assignment.targets], [ast.Name], where)
        function = parents[assignment]
        while not isinstance(function, ast.FunctionDef):
            function = parents[function]
        named = [node for node in ast.walk(function)
                 if isinstance(node, ast.Name) and node.id == assignment.targets[0].id]
        self.assertEqual(len([node for node in named if isinstance(node.ctx, ast.Store)]), 1, where)
        for node in [node for node in named if isinstance(node.ctx, ast.Load)]:
            above = parents[node]
            gone_over = isinstance(above, (ast.For, ast.comprehension)) and above.iter is node
            self.assertTrue(gone_over or called_name(above) in BUILTINS or is_test_of_range(above, node), where)

    def test_what_a_loop_goes_over_is_not_changed_in_it(self):
        for path, tree in trees():
            for node in ast.walk(tree):
                if isinstance(node, ast.For):
                    parts = [part for part in ast.walk(node.iter) if isinstance(part, (ast.Name, ast.Attribute))]
                    over = set(map(ast.unparse, parts))
                    self.assertFalse(over & changed_names(node.body), (path, node.lineno))

    def test_library_functions_are_only_called(self):
        for path, tree in trees():
            parents = parents_of(tree)
            for node in ast.walk(tree):
                if isinstance(node, ast.Name) and node.id in library_names(tree):
                    call = parents[node]
                    self.assertEqual(called_name(call), node.id, (path, node.lineno))
                    self.assertEqual(call.keywords, [], (path, node.lineno))

    def test_where_sets_stand(self):
        for path, tree in trees():
            parents = parents_of(tree)
            for node in ast.walk(tree):
                if is_set(node):
                    above = parents[node]
                    stands = isinstance(above, (ast.Assign, ast.Compare, ast.BinOp))
                    self.assertTrue(stands or called_name(above) in ("sorted", "len"), (path, node.lineno))
            for function in functions_of(tree):
                for node in ast.walk(function):
                    if isinstance(node, ast.Assign) and is_set(node.value):
                        self.check_stored_set(function, node.targets, parents)

    def check_stored_set(self, function, targets, parents):
        """A set that is kept: it is assigned once, and used as the rule tells."""
        self.assertEqual([target.__class__ for target in targets], [ast.Name])
        named = [node for node in ast.walk(function) if isinstance(node, ast.Name) and node.id == targets[0].id]
        self.assertEqual(len([node for node in named if isinstance(node.ctx, ast.Store)]), 1, function.name)
        for node in [node for node in named if isinstance(node.ctx, ast.Load)]:
            above = parents[node]
            if isinstance(above, ast.Attribute):
                self.assertIn(above.attr, ("add", "discard"), function.name)
                self.assertIsInstance(parents[parents[above]], ast.Expr, function.name)
            elif isinstance(above, ast.Compare):
                self.assertIsInstance(above.ops[0], (ast.In, ast.NotIn, ast.Eq, ast.NotEq), function.name)
            else:
                self.assertTrue(called_name(above) in ("len", "sorted") or isinstance(above, (ast.If, ast.While)))

    def test_classes_with_equality_only_in_the_plain_form(self):
        for path, tree in trees():
            for node in ast.walk(tree):
                if isinstance(node, ast.FunctionDef) and node.name == "__eq__":
                    # Behind the first sign `and` the parts may be shown in parentheses.
                    text = re.sub(r"\((self\.\w+ == other\.\w+)\)", r"\1", ast.unparse(node.body[-1]))
                    self.assertEqual(len(node.body), 1, path)
                    self.assertRegex(text, r"^return isinstance\(other, \w+\)( and self\.(\w+) == other\.\2)+$")


if __name__ == "__main__":
    unittest.main()
