"""Those rules of the language of the package that can be looked up in its files one by one."""

import ast
import builtins
import pathlib
import re
import unittest

FOLDER = pathlib.Path(__file__).resolve().parent.parent / "manyvoices"
LIBRARY = {
    "heapq": {"heappush", "heappop", "heapify", "heapreplace", "heappushpop"},
    "math": {"gcd", "lcm", "isqrt", "comb", "perm", "factorial"},
    "itertools": {"product", "combinations", "permutations"},
}
BUILTINS = set(
    "len range enumerate zip min max sum abs sorted reversed int str bool bytes list tuple dict set frozenset "
    "isinstance ord repr any all divmod iter next map super Exception ValueError TypeError KeyError IndexError "
    "LookupError ZeroDivisionError ArithmeticError OverflowError RuntimeError NotImplementedError AttributeError "
    "StopIteration NotImplemented".split()
)
METHODS = set(
    "append clear copy count endswith extend find get index insert isalnum isalpha isascii isdigit islower isspace isupper "
    "items join keys ljust lower lstrip partition pop remove replace reverse rfind rjust rpartition rsplit rstrip "
    "setdefault split splitlines startswith strip update upper values zfill bit_length add discard __init__".split()
)
NO_NAMES = set(
    "register mro elements open input law version_info with_traceback add_note attrgetter breakpoint compile "
    "copyright credits delattr dir eval exec exit gc getattr globals hasattr help id importlib license locals "
    "methodcaller os quit setattr type vars sys".split()
)
NO_WORDS = re.compile(
    r"\b(type|typing|typing_extensions|enum|Enum|IntEnum|StrEnum|Flag|IntFlag|Generic|Protocol|ABC|ABCMeta|"
    r"namedtuple|NamedTuple|TypedDict|TYPE_CHECKING|abstractmethod)\b|dataclass|overload|contextmanager"
)
SPECIAL = set(
    "__init__ __eq__ __repr__ __str__ __len__ __call__ __iter__ __lt__ __le__ __gt__ __ge__ __ne__ __add__ __sub__ "
    "__mul__ __radd__ __rsub__ __rmul__ __neg__ __bool__ __contains__ __enter__ __exit__".split()
)


def files():
    return {path: path.read_text(encoding="utf-8") for path in sorted(FOLDER.glob("*.py"))}


def trees():
    return {path.stem: ast.parse(text) for path, text in files().items()}


def nodes(tree, *kinds):
    return [node for node in ast.walk(tree) if isinstance(node, kinds)]


def functions(tree):
    return nodes(tree, ast.FunctionDef)


def bound_names(tree):
    """All names that are given to variables and parameters."""
    names = [node.id for node in nodes(tree, ast.Name) if isinstance(node.ctx, ast.Store)]
    return names + [node.arg for node in nodes(tree, ast.arg)]


def imported(tree):
    return [(node.module, alias.name) for node in tree.body if isinstance(node, ast.ImportFrom) for alias in node.names]


class Language(unittest.TestCase):
    def test_folder(self):
        for path in FOLDER.iterdir():
            if path.name != "__pycache__":
                self.assertRegex(path.name, r"\A[a-z_]+\.py\Z")

    def test_sizes_and_characters(self):
        for path, text in files().items():
            self.assertLessEqual(len(text.splitlines()), 399, path)
            self.assertRegex(text, r"\A[ -~\n]*\Z", path)
            self.assertLessEqual(max(map(len, text.splitlines())), 120, path)
        for name, tree in trees().items():
            for function in functions(tree):
                self.assertLessEqual(function.end_lineno - function.lineno + 1, 40, (name, function.name))

    def test_imports(self):
        defined = {
            name: {node.name for node in tree.body if isinstance(node, (ast.FunctionDef, ast.ClassDef))}
            | {node.targets[0].id for node in tree.body if isinstance(node, ast.Assign)}
            for name, tree in trees().items()
        }
        for name, tree in trees().items():
            self.assertEqual(nodes(tree, ast.Import), [], name)
            for node in nodes(tree, ast.ImportFrom):
                self.assertIn(node, tree.body)
                self.assertEqual((node.level, [alias.asname for alias in node.names if alias.asname]), (0, []))
            for module, thing in imported(tree):
                if module in LIBRARY:
                    self.assertIn(thing, LIBRARY[module])
                else:
                    self.assertIn(thing, defined[module.removeprefix("manyvoices.")], (name, thing))

    def test_no_two_files_import_from_each_other(self):
        needs = {
            name: {module.removeprefix("manyvoices.") for module, _ in imported(tree) if module not in LIBRARY}
            for name, tree in trees().items()
        }
        self.assertEqual(needs["__init__"], set())
        while needs:
            free = [name for name in needs if not needs[name] & set(needs)]
            self.assertNotEqual(free, [], needs)
            for name in free:
                del needs[name]

    def test_module_level(self):
        for name, tree in trees().items():
            names = [thing for _, thing in imported(tree)]
            for node in tree.body:
                if isinstance(node, ast.Assign):
                    self.assertEqual([type(target) for target in node.targets], [ast.Name], name)
                    names.append(node.targets[0].id)
                elif isinstance(node, (ast.FunctionDef, ast.ClassDef)):
                    names.append(node.name)
                else:
                    docstring = isinstance(node, ast.Expr) and isinstance(node.value, ast.Constant)
                    self.assertTrue(docstring or isinstance(node, ast.ImportFrom), (name, node.lineno))
            self.assertEqual(len(names), len(set(names)), name)

    def test_names(self):
        for name, tree in trees().items():
            own = {thing for _, thing in imported(tree)} | {node.name for node in nodes(tree, ast.ClassDef)}
            local = [thing for function in functions(tree) for thing in bound_names(function)]
            self.assertEqual(set(local) & own, set(), name)
            methods = [part.name for node in nodes(tree, ast.ClassDef) for part in node.body if hasattr(part, "name")]
            plain = [node.name for node in functions(tree) if node.name not in methods] + bound_names(tree)
            self.assertEqual(set(plain) & set(dir(builtins)), set(), name)
            told = plain + methods + [node.attr for node in nodes(tree, ast.Attribute)]
            self.assertEqual(set(told) & NO_NAMES, set(), name)
            for word in told:
                self.assertTrue(re.fullmatch(r"_|_?[A-Za-z][A-Za-z0-9_]*", word) or word in SPECIAL, (name, word))

    def test_words(self):
        for name, tree in trees().items():
            for node in nodes(tree, ast.FunctionDef, ast.ClassDef, ast.Module):
                if ast.get_docstring(node) is not None:
                    node.body[0].value.value = "told"
            self.assertIsNone(NO_WORDS.search(ast.unparse(tree)), name)
            for node in nodes(tree, ast.Constant):
                self.assertNotIsInstance(node.value, float)
                if isinstance(node.value, str):
                    self.assertNotIn("%", node.value)

    def test_builtins_and_methods(self):
        all_trees = trees()
        own = {node.name for tree in all_trees.values() for node in functions(tree)}
        for name, tree in all_trees.items():
            read = {node.id for node in nodes(tree, ast.Name)} & set(dir(builtins))
            self.assertEqual(read - BUILTINS, set(), name)
            for node in nodes(tree, ast.Call):
                if isinstance(node.func, ast.Attribute):
                    self.assertIn(node.func.attr, METHODS | own, (name, node.lineno))

    def test_syntax(self):
        barred = (
            ast.Global,
            ast.Div,
            ast.AsyncFunctionDef,
            ast.Await,
            ast.GeneratorExp,
            ast.TypeAlias if hasattr(ast, "TypeAlias") else ast.Global,
        )
        for name, tree in trees().items():
            self.assertEqual([node.lineno for node in nodes(tree, *barred)], [], name)
            for function in functions(tree):
                self.assertEqual(function.decorator_list, [], (name, function.name))
            for node in nodes(tree, ast.Compare):
                for sign, right in zip(node.ops, node.comparators):
                    if isinstance(sign, (ast.Is, ast.IsNot)):
                        self.assertIn(getattr(right, "value", "no"), (None, True, False), (name, node.lineno))

    def test_equal_is_one_return(self):
        # an __eq__ that assigns nothing and calls nothing but isinstance keeps L5 and L28
        for name, tree in trees().items():
            for function in functions(tree):
                if function.name == "__eq__":
                    self.assertEqual([type(node) for node in function.body], [ast.Return], name)
                    called = [node.func.id for node in nodes(function, ast.Call)]
                    self.assertEqual(called, ["isinstance"], name)

    def test_methods_and_attributes_have_unlike_names(self):
        for name, tree in trees().items():
            for node in nodes(tree, ast.ClassDef):
                methods = {part.name for part in node.body if isinstance(part, ast.FunctionDef)}
                held = {
                    part.attr
                    for part in nodes(node, ast.Attribute)
                    if isinstance(part.ctx, ast.Store) and getattr(part.value, "id", None) == "self"
                }
                self.assertEqual(methods & held, set(), (name, node.name))

    def test_methods_and_attributes_of_all_classes_have_unlike_names(self):
        # more strictly than L18
        methods, held = set(), set()
        for tree in trees().values():
            for node in nodes(tree, ast.ClassDef):
                methods |= {part.name for part in node.body if isinstance(part, ast.FunctionDef)}
            held |= {node.attr for node in nodes(tree, ast.Attribute) if isinstance(node.ctx, ast.Store)}
        self.assertEqual(methods & held, set())

    def test_finally_assigns_names_alone(self):
        # L6, and more strictly: no other statements, and names that are assigned ahead of the try
        for name, tree in trees().items():
            for function in functions(tree):
                ahead = set(bound_names(function))
                for node in nodes(function, ast.Try):
                    for statement in node.finalbody:
                        self.assertIs(type(statement), ast.Assign, (name, statement.lineno))
                        values = statement.value.elts if isinstance(statement.value, ast.Tuple) else [statement.value]
                        self.assertTrue(all(isinstance(part, ast.Name) and part.id in ahead for part in values))

    def test_handlers_catch_own_errors(self):
        # L19, and more strictly: none of Python's own
        own = {node.name for tree in trees().values() for node in nodes(tree, ast.ClassDef)}
        for name, tree in trees().items():
            for node in nodes(tree, ast.ExceptHandler):
                self.assertIn(getattr(node.type, "id", None), own, (name, node.lineno))
            for node in nodes(tree, ast.Raise):
                self.assertIn(getattr(node.exc.func, "id", None), own, (name, node.lineno))

    def test_strings_inside_of_strings(self):
        # L27: an f-string stands on one line, and those within its braces have the other quote
        for path, text in files().items():
            for line in text.splitlines():
                if re.search(r"f'|\bf\"\"\"|rf\"|fr\"", line):
                    self.fail((path, line))
            for node in nodes(ast.parse(text), ast.JoinedStr):
                self.assertEqual(node.lineno, node.end_lineno, path)

    def test_what_is_iterated_stands_on_the_spot(self):
        # L23: zip, enumerate, reversed and the views of dicts are iterated where they stand, ranges too
        takers = {"list", "tuple", "dict", "sorted", "sum", "any", "all", "enumerate", "zip", "min", "max"}
        for name, tree in trees().items():
            on_the_spot = set()
            for node in nodes(tree, ast.For, ast.comprehension):
                on_the_spot.add(node.iter)
            for node in nodes(tree, ast.Call):
                called = getattr(node.func, "id", None)
                if called in takers:
                    on_the_spot.update(node.args)
                if called == "reversed":
                    on_the_spot.update(part for part in node.args if getattr(getattr(part, "func", None), "id", None) == "range")
            for node in nodes(tree, ast.Call):
                called = getattr(node.func, "id", None) or getattr(node.func, "attr", None)
                if called in {"zip", "enumerate", "reversed", "range", "items", "keys", "values"}:
                    self.assertIn(node, on_the_spot, (name, node.lineno))

    def test_sets_are_counted_or_sorted_at_once(self):
        # L24, without the sets that a function may keep
        for name, tree in trees().items():
            taken = set()
            for node in nodes(tree, ast.Call):
                if getattr(node.func, "id", None) in ("len", "sorted"):
                    taken.update(node.args)
            made = [node for node in nodes(tree, ast.Call) if getattr(node.func, "id", None) in ("set", "frozenset")]
            for node in [*made, *nodes(tree, ast.Set, ast.SetComp)]:
                self.assertIn(node, taken, (name, node.lineno))

    def test_names_of_the_library_are_called_alone(self):
        for name, tree in trees().items():
            library = {thing for module, thing in imported(tree) if module in LIBRARY}
            called = [node.func for node in nodes(tree, ast.Call) if not node.keywords]
            read = [node for node in nodes(tree, ast.Name) if node.id in library]
            self.assertEqual([node.lineno for node in read if node not in called], [], name)

    def test_variables_of_inner_comprehensions(self):
        # L7, and more strictly: none of them has the name of another variable of its function
        kinds = (ast.ListComp, ast.DictComp, ast.SetComp)
        for name, tree in trees().items():
            for function in functions(tree):
                outer = nodes(function, *kinds)
                inner = [node for one in outer for node in nodes(one, *kinds) if node is not one]
                inside = {part for one in outer for part in ast.walk(one)}
                assigned = [part for part in nodes(function, ast.Name) if isinstance(part.ctx, ast.Store)]
                told = {part.id for part in assigned if part not in inside}
                told |= {arg.arg for arg in nodes(function, ast.arg)}
                own = {part.id for node in inner for gen in node.generators for part in nodes(gen.target, ast.Name)}
                self.assertEqual(own & told, set(), (name, function.name))

    def test_names_of_methods_and_attributes_are_free(self):
        # L26
        held = {part for kind in (str, int, list, dict, set, bytes, float) for part in dir(kind)}
        free = {"add", "discard", "items", "keys", "values", "append", "clear", "pop", "update"} | SPECIAL
        for name, tree in trees().items():
            methods = {part.name for node in nodes(tree, ast.ClassDef) for part in node.body if hasattr(part, "name")}
            self.assertEqual(methods & (held - free), set(), name)
            stored = {node.attr for node in nodes(tree, ast.Attribute) if isinstance(node.ctx, ast.Store)}
            self.assertEqual(stored & (held - {"index", "count", "title", "find", "copy", "add"}), set(), name)

    def test_stars_stand_where_they_may(self):
        # L7: in calls of own functions and of max, min, zip, over names and attributes off names alone
        for name, tree in trees().items():
            own = {node.name for one in trees().values() for node in nodes(one, ast.FunctionDef, ast.ClassDef)}
            for node in nodes(tree, ast.Call):
                for part in [part.value for part in node.args if isinstance(part, ast.Starred)]:
                    self.assertIn(getattr(node.func, "id", None), own | {"max", "min", "zip"}, (name, node.lineno))
                    off_a_name = isinstance(part, ast.Attribute) and isinstance(part.value, ast.Name)
                    self.assertTrue(isinstance(part, ast.Name) or off_a_name, (name, node.lineno))
