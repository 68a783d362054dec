"""What can be seen of the form that the code of the package is written in, and of the document's interface."""
import ast
import builtins
import importlib
import inspect
import pathlib
import re
import unittest

PACKAGE = pathlib.Path(__file__).resolve().parent.parent / "aheadofholes"

INTERFACE = {
    "trees": {"is_name": "thing", "is_full": "thing", "is_tree": "thing", "is_form": "thing", "line_of": "full",
              "holes_in": "tree", "names_in": "tree", "put_for": "tree by", "renamed": "tree", "tree_at": "tree place"},
    "treetexts": {"show_tree": "tree", "read_tree": "text"},
    "heads": {"match": "head form", "is_instance": "one other"},
    "meeting": {"meet": "one other"},
    "nevers": {"never": "one other"},
    "neverlooks": {"shows_never": "one other thing"},
    "lores": {"is_word": "thing", "is_verb": "thing", "is_lore": "thing", "is_of": "lore head"},
    "looking": {"looked": "lore head"},
    "editions": {"is_edition": "thing"},
    "sights": {"sight": "book edition", "lore_of": "book edition", "keeper": "book edition verb"},
    "rule": {"fate": "book edition number", "let_by": "book edition", "is_book": "thing"},
    "strangers": {"stranger": "book edition number"},
    "strangerlooks": {"shows_stranger": "book edition number thing"},
    "houses": {"part": "book keys", "who": "book form", "answers": "book form"},
    "joining": {"joined": "book other"},
    "coming": {"may_come": "book form"},
    "working": {"worked": "book form most"},
    "worklooks": {"shows_worked": "book form most thing"},
    "idles": {"idle": "edition", "used": "book edition number"},
    "partings": {"parted": "book one other"},
    "texts": {"show_edition": "edition", "show_book": "book", "read_edition": "text", "read_book": "text"},
}
CLASSES = {
    "yards": {"Yard": {"publish": "self edition", "book": "self", "__len__": "self"}},
    "desk": {"Desk": {"__init__": "self text", "say": "self line"}},
}

BUILTINS = set("""len range enumerate zip min max sum abs sorted reversed int str bool list tuple dict set isinstance any all
    divmod type ValueError""".split())
METHODS = set("""append clear copy count endswith extend find get index insert items join keys partition pop remove replace
    reverse setdefault split startswith update values add""".split())
STATEMENTS = """Module Expr ImportFrom alias FunctionDef ClassDef arguments arg Return Assign AugAssign For While If Raise
    Break Continue Pass Delete Try ExceptHandler Yield"""
EXPRESSIONS = """BoolOp BinOp UnaryOp Lambda IfExp Dict Set ListComp SetComp DictComp GeneratorExp comprehension Compare
    Call keyword JoinedStr FormattedValue Constant Attribute Subscript Starred Name List Tuple Slice Load Store Del"""
SIGNS = "And Or Add Sub Mult Not USub Eq NotEq Lt LtE Gt GtE Is IsNot In NotIn"
NODES = set((STATEMENTS + " " + EXPRESSIONS + " " + SIGNS).split())
BARRED = set("""register mro elements open input law version_info with_traceback add_note attrgetter breakpoint builtins
    compile copyright credits delattr dir eval exec exit gc globals help id importlib license locals methodcaller os quit
    super sys vars""".split())
BARRED_WORDS = re.compile(r"\b(typing|typing_extensions|enum|Enum|IntEnum|StrEnum|Flag|IntFlag|Generic|Protocol|ABC|ABCMeta"
                          r"|namedtuple|NamedTuple|TypedDict|TYPE_CHECKING|abstractmethod|_wall|_WallAttr)\b")
AT_ONCE = {"zip", "enumerate", "reversed", "range"}
TAKERS = {"list", "tuple", "dict", "sorted", "sum", "any", "all", "enumerate", "zip", "min", "max"}


def files():
    return {path.stem: path.read_text(encoding="utf-8") for path in sorted(PACKAGE.glob("*.py"))}


def trees():
    return {name: ast.parse(text) for name, text in files().items()}


def bound(tree):
    """The names that a file binds at its top."""
    found = []
    for row in tree.body:
        if isinstance(row, ast.ImportFrom):
            found += [alias.asname or alias.name for alias in row.names]
        elif isinstance(row, ast.Assign):
            found += [target.id for target in row.targets]
        elif isinstance(row, (ast.FunctionDef, ast.ClassDef)):
            found.append(row.name)
    return found


def own_names(tree):
    """All names that a file gives to something of its own."""
    found = []
    for node in ast.walk(tree):
        if isinstance(node, (ast.FunctionDef, ast.ClassDef)):
            found.append(node.name)
        elif isinstance(node, ast.arg):
            found.append(node.arg)
        elif isinstance(node, (ast.Name, ast.Attribute)) and isinstance(node.ctx, ast.Store):
            found.append(node.id if isinstance(node, ast.Name) else node.attr)
        elif isinstance(node, ast.alias):
            found.append(node.asname or node.name)
    return found


def functions_above(tree, row):
    """The names of a file's own functions that stand above one of its rows."""
    return [other.name for other in tree.body[:tree.body.index(row)] if isinstance(other, ast.FunctionDef)]


def is_plain(value, functions):
    """Whether what a file gives a name is written out, or is a dict of these functions by texts that are so."""
    if isinstance(value, ast.Dict) and all(isinstance(worth, ast.Name) for worth in value.values):
        return all(isinstance(key, ast.Constant) for key in value.keys) and {worth.id for worth in value.values} <= set(functions)
    try:
        ast.literal_eval(value)
    except ValueError:
        return False
    return True


def stars_in_brackets(tree):
    """The rows of a file on which a star stands in the brackets of a subscript."""
    return [inner.lineno for node in ast.walk(tree) if isinstance(node, ast.Subscript)
            for inner in ast.walk(node.slice) if isinstance(inner, ast.Starred)]


class Files(unittest.TestCase):
    def test_only_python_files(self):
        for path in PACKAGE.iterdir():
            if path.name != "__pycache__":
                self.assertRegex(path.name, r"^(__init__|[a-z][a-z0-9_]*)\.py$")
        self.assertIn("__init__", files())

    def test_rows_and_signs(self):
        for name, text in files().items():
            self.assertTrue(text.endswith("\n") and not text.endswith("\n\n"), name)
            rows = text.split("\n")
            self.assertLessEqual(len(rows), 399, name)
            for row in rows:
                self.assertLessEqual(len(row), 120, (name, row))
                self.assertRegex(row, r"^[ -~]*$", name)
                self.assertEqual(row, row.rstrip(), name)
            self.assertIsNone(BARRED_WORDS.search(text), name)

    def test_functions_are_small(self):
        for name, tree in trees().items():
            for node in ast.walk(tree):
                if isinstance(node, ast.FunctionDef):
                    self.assertLessEqual(node.end_lineno - node.lineno + 1, 40, (name, node.name))

    def test_each_file_says_what_it_is(self):
        for name, tree in trees().items():
            self.assertTrue(ast.get_docstring(tree), name)


class Imports(unittest.TestCase):
    def test_each_names_the_file_that_defines_the_name(self):
        defined = {name: [row.name for row in tree.body if isinstance(row, (ast.FunctionDef, ast.ClassDef))]
                   + [row.targets[0].id for row in tree.body if isinstance(row, ast.Assign)]
                   for name, tree in trees().items()}
        for name, tree in trees().items():
            for node in ast.walk(tree):
                if isinstance(node, ast.ImportFrom):
                    self.assertIn(node, tree.body)
                    package, _, file = node.module.partition(".")
                    self.assertEqual((package, node.level), ("aheadofholes", 0), name)
                    for alias in node.names:
                        self.assertIn(alias.name, defined[file], name)
                        self.assertFalse(alias.name.startswith("_"), name)

    def test_they_stand_at_the_top(self):
        for name, tree in trees().items():
            kinds = [isinstance(row, ast.ImportFrom) for row in tree.body[1:]]
            self.assertEqual(kinds, sorted(kinds, reverse=True), name)

    def test_no_two_files_import_from_each_other(self):
        below = {name: [row.module.split(".")[1] for row in tree.body if isinstance(row, ast.ImportFrom)]
                 for name, tree in trees().items()}
        while below:
            ends = [name for name in below if not below[name]]
            self.assertTrue(ends, below)
            below = {name: [file for file in below[name] if file not in ends] for name in below if name not in ends}

    def test_nothing_is_imported_without_need(self):
        for name, tree in trees().items():
            used = {node.id for node in ast.walk(tree) if isinstance(node, ast.Name)}
            for row in tree.body:
                if isinstance(row, ast.ImportFrom):
                    self.assertLessEqual({alias.name for alias in row.names}, used, name)


class Code(unittest.TestCase):
    def test_only_these_sorts_of_statements_and_signs(self):
        for name, tree in trees().items():
            for node in ast.walk(tree):
                self.assertIn(type(node).__name__, NODES, (name, getattr(node, "lineno", 0)))
                if isinstance(node, (ast.FunctionDef, ast.ClassDef)):
                    self.assertEqual(node.decorator_list, [], name)

    def test_no_star_stands_in_the_brackets_of_a_subscript(self):
        for name, tree in trees().items():
            self.assertEqual(stars_in_brackets(tree), [], name)

    def test_stars_in_brackets_are_found_in_what_is_read_and_in_what_is_assigned(self):
        for text in ["y = xs[(*a, 1)]", "xs[(*a, 1)] = y", "xs[*a] = y", "y = xs[1, *a]", "xs[(1, *a)] += y", "del xs[(*a,)]",
                     "y = xs[[*a][0]]", "def f(a):\n    return {}.get(1)[(*a, 2)]", "y = [xs[(0, *a)] for a in b]",
                     "xs[0][(*a, 1)] = y", "xs[(*a, 1)][0] = y", "for xs[(*a,)] in b:\n    pass", "y = xs[1:len([*a])]"]:
            self.assertTrue(stars_in_brackets(ast.parse(text)), text)
        for text in ["y = (*a, xs[1])", "y = [*xs[1]]", "place = (*a, 1)\nxs[place] = y", "first, *xs[1:] = a", "f(*xs[0])"]:
            self.assertEqual(stars_in_brackets(ast.parse(text)), [], text)

    def test_the_top_of_a_file(self):
        for name, tree in trees().items():
            for row in tree.body[1:]:
                self.assertIsInstance(row, (ast.ImportFrom, ast.FunctionDef, ast.ClassDef, ast.Assign), name)
                if isinstance(row, ast.Assign):
                    self.assertEqual([type(target) for target in row.targets], [ast.Name], name)
                    self.assertTrue(is_plain(row.value, functions_above(tree, row)), (name, row.lineno))
            names = bound(tree)
            self.assertEqual(len(names), len(set(names)), name)

    def test_plain_values(self):
        for name, tree in trees().items():
            docstrings = {id(node.body[0].value) for node in ast.walk(tree)
                          if isinstance(node, (ast.Module, ast.ClassDef, ast.FunctionDef)) and ast.get_docstring(node)}
            for node in ast.walk(tree):
                if isinstance(node, ast.Constant):
                    self.assertIn(type(node.value), (str, int, bool, type(None)), name)
                    if type(node.value) is str and id(node) not in docstrings:
                        self.assertNotIn("%", node.value, name)

    def test_names(self):
        for name, tree in trees().items():
            for word in own_names(tree):
                self.assertNotIn(word, BARRED, name)
                self.assertNotIn(word, dir(builtins), name)
                if word not in ("__init__", "__len__", "_"):
                    self.assertRegex(word, r"^_?[A-Za-z][A-Za-z0-9_]*$", name)

    def test_no_local_name_is_that_of_an_import_or_a_class(self):
        for name, tree in trees().items():
            taken = {alias.name for row in tree.body if isinstance(row, ast.ImportFrom) for alias in row.names}
            taken |= {row.name for row in tree.body if isinstance(row, ast.ClassDef)}
            for node in ast.walk(tree):
                if isinstance(node, ast.arg):
                    self.assertNotIn(node.arg, taken, name)
                if isinstance(node, ast.Name) and isinstance(node.ctx, ast.Store):
                    self.assertNotIn(node.id, taken, name)

    def test_only_these_builtins(self):
        for name, tree in trees().items():
            own = set(own_names(tree))
            for node in ast.walk(tree):
                if isinstance(node, ast.Name) and isinstance(node.ctx, ast.Load) and node.id not in own:
                    self.assertIn(node.id, BUILTINS, (name, node.lineno))

    def test_only_these_methods(self):
        methods = {row.name for tree in trees().values() for node in tree.body if isinstance(node, ast.ClassDef)
                   for row in node.body if isinstance(row, ast.FunctionDef)}
        for name, tree in trees().items():
            for node in ast.walk(tree):
                if isinstance(node, ast.Call) and isinstance(node.func, ast.Attribute):
                    self.assertIn(node.func.attr, METHODS | methods, (name, node.lineno))

    def test_is_stands_by_none_truths_and_kinds(self):
        for name, tree in trees().items():
            for node in ast.walk(tree):
                if isinstance(node, ast.Compare) and isinstance(node.ops[0], (ast.Is, ast.IsNot)):
                    right = node.comparators[0]
                    if isinstance(right, ast.Call):
                        self.assertEqual((type(node.ops[0]), node.left.func.id, right.func.id), (ast.Is, "type", "type"), name)
                    elif isinstance(right, ast.Name):
                        self.assertIn(right.id, ("str", "int", "tuple", "bool"), name)
                        self.assertEqual(node.left.func.id, "type", name)
                    else:
                        self.assertIn(right.value, (None, True, False), name)

    def test_type_stands_by_is_alone(self):
        for name, tree in trees().items():
            compared = {id(side) for node in ast.walk(tree) if isinstance(node, ast.Compare)
                        and isinstance(node.ops[0], (ast.Is, ast.IsNot)) and len(node.ops) == 1
                        for side in [node.left, *node.comparators]}
            for node in ast.walk(tree):
                if isinstance(node, ast.Call) and isinstance(node.func, ast.Name) and node.func.id == "type":
                    self.assertIn(id(node), compared, (name, node.lineno))

    def test_zips_and_their_like_are_iterated_at_once(self):
        for name, tree in trees().items():
            taken = set()
            for node in ast.walk(tree):
                if isinstance(node, (ast.For, ast.comprehension)):
                    taken.add(id(node.iter))
                if isinstance(node, ast.Call) and isinstance(node.func, ast.Name) and node.func.id in TAKERS:
                    taken.add(id(node.args[0]))
                if isinstance(node, ast.Call) and isinstance(node.func, ast.Name) and node.func.id == "reversed":
                    taken.update(id(arg) for arg in node.args
                                 if isinstance(arg, ast.Call) and isinstance(arg.func, ast.Name) and arg.func.id == "range")
            for node in ast.walk(tree):
                if isinstance(node, ast.Call):
                    called = node.func.id if isinstance(node.func, ast.Name) else node.func.attr
                    if called in AT_ONCE or called in ("items", "keys", "values"):
                        self.assertIn(id(node), taken, (name, node.lineno))

    def test_no_function_calls_itself(self):
        for name, tree in trees().items():
            for node in ast.walk(tree):
                if isinstance(node, ast.FunctionDef):
                    called = [inner.func for inner in ast.walk(node) if isinstance(inner, ast.Call)]
                    names = [func.id if isinstance(func, ast.Name) else func.attr for func in called]
                    self.assertNotIn(node.name, names, name)

    def test_only_errors_of_its_own_are_caught(self):
        for name, tree in trees().items():
            for node in ast.walk(tree):
                if isinstance(node, ast.ExceptHandler):
                    self.assertIn(node.type.id, bound(trees()["errors"]), name)
                    self.assertIsNone(node.name, name)
                if isinstance(node, ast.Try):
                    self.assertEqual((node.orelse, node.finalbody), ([], []), name)

    def test_a_length_is_a_len(self):
        for name, tree in trees().items():
            for node in ast.walk(tree):
                if isinstance(node, ast.FunctionDef) and node.name == "__len__":
                    self.assertEqual(node.body[-1].value.func.id, "len", name)

    def test_sets_are_sorted_or_asked_at_once(self):
        for name, tree in trees().items():
            taken = set()
            for node in ast.walk(tree):
                if isinstance(node, ast.Call) and isinstance(node.func, ast.Name) and node.func.id in ("sorted", "len"):
                    taken.add(id(node.args[0]))
                if isinstance(node, ast.Assign):
                    taken.add(id(node.value))
            for node in ast.walk(tree):
                if isinstance(node, (ast.SetComp, ast.Set)):
                    self.assertIn(id(node), taken, (name, node.lineno))

    def test_what_yields_is_iterated_at_once_by_a_loop(self):
        yields = {node.name for tree in trees().values() for node in ast.walk(tree)
                  if isinstance(node, ast.FunctionDef) and any(isinstance(inner, ast.Yield) for inner in ast.walk(node))}
        for name, tree in trees().items():
            taken = {id(node.iter.func) for node in ast.walk(tree) if isinstance(node, ast.For) and isinstance(node.iter, ast.Call)}
            for node in ast.walk(tree):
                if isinstance(node, ast.Name) and node.id in yields:
                    self.assertIn(id(node), taken, (name, node.lineno))

    def test_errors_are_made_where_they_are_raised(self):
        for name, tree in trees().items():
            for node in ast.walk(tree):
                if isinstance(node, ast.Raise):
                    self.assertIsInstance(node.exc, ast.Call, name)


class Interface(unittest.TestCase):
    def test_functions_and_their_arguments(self):
        for file, functions in INTERFACE.items():
            module = importlib.import_module(f"aheadofholes.{file}")
            for name, arguments in functions.items():
                function = getattr(module, name)
                self.assertEqual(function.__module__, f"aheadofholes.{file}")
                self.assertEqual(list(inspect.signature(function).parameters), arguments.split())

    def test_classes_and_the_methods_in_their_own_bodies(self):
        for file, classes in CLASSES.items():
            module = importlib.import_module(f"aheadofholes.{file}")
            for name, methods in classes.items():
                made = getattr(module, name)
                self.assertEqual(made.__module__, f"aheadofholes.{file}")
                for method, arguments in methods.items():
                    self.assertEqual(list(inspect.signature(vars(made)[method]).parameters), arguments.split())


if __name__ == "__main__":
    unittest.main()
