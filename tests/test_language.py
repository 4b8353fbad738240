"""The files of the package: the interface is defined where it is listed, and the rules that can be read off the files.

The numbers of rules are those of LANGUAGE.md.
"""

import ast
import builtins
import pathlib
import re
import unittest
import warnings

PACKAGE = pathlib.Path(__file__).resolve().parent.parent / "duelsets"

# The interface; bounds are plain values, the others are functions and classes.
VALUES = {"bounds": ["MAX_SIZE", "MAX_ENTRIES", "EDITS", "BATCH"]}
DEFINITIONS = {
    "errors": [
        "DuelError", "NoSet", "SameAlternative", "NoTop", "NoOrder", "TooLarge", "NotOfKind", "NoFlag", "NoPlans",
        "BadTable", "NotStrong", "TooManyEdits", "LastOne", "NothingToUndo", "BadEdits", "BadEdit", "Rejected", "Busy",
        "BadText", "NoAlternative", "NoAddress", "NoKind", "NoIndex", "NoVersion",
    ],
    "tables": [
        "is_table", "table_error", "wins_of", "losses_of", "scores", "restrict_table", "turn_duel", "relabel_table",
        "all_sets",
    ],
    "tops": ["layers", "dominant_sets", "top_set", "top_certificate", "top_holds"],
    "covers": ["coverers", "uncovered_set", "uncovered_certificate", "uncovered_holds"],
    "coverings": ["is_covering", "covering_sets", "smallest_covering", "find_witnesses", "witnesses_hold"],
    "lotteries": ["balances", "is_lottery", "lottery", "support"],
    "chains": ["is_chain", "is_full_chain", "chain_tops", "chain_for", "full_chains", "each_full_chain"],
    "components": ["is_component", "all_components", "parts", "summary", "replace_alternatives"],
    "plans": ["is_plan", "plan_size", "is_address", "plan_duel", "plan_score", "expand_plan", "series_plan"],
    "kinds": [
        "members", "member_sets", "select", "count_members", "is_member", "member_at", "member_index", "each_member",
        "share",
    ],
    "sequences": ["sequence_winner", "careful_winner", "sequence_for", "sequence_counts", "careful_counts"],
    "benches": ["Bench", "StrongBench", "LoggedBench", "LoggedStrongBench"],
    "texts": ["table_text", "set_text", "parse_table", "parse_order"],
    "shells": ["Shell"],
}

# What the document describes of a class stands in the class itself; methods that a class below has anew do, too.
METHODS = {
    ("benches", "Bench"): [
        "__init__", "read", "is_edit", "version", "size", "kind", "choose", "turn", "add", "remove", "undo", "run",
        "table", "best", "edits", "leaders", "walk", "__len__", "__str__", "__eq__",
    ],
    ("benches", "StrongBench"): ["__init__"],
    ("benches", "LoggedBench"): ["__init__", "log", "turn", "add", "remove", "undo", "run"],
    ("benches", "LoggedStrongBench"): ["__init__"],
    ("shells", "Shell"): ["__init__", "execute"],
}

BUILTINS = set(
    """len range enumerate zip min max sum abs sorted reversed int str bool bytes list tuple dict set frozenset
    isinstance ord repr any all divmod Exception ValueError TypeError KeyError IndexError LookupError ZeroDivisionError
    ArithmeticError OverflowError RuntimeError NotImplementedError AttributeError StopIteration NotImplemented iter next
    super property staticmethod classmethod""".split()
)
BARRED_WORDS = re.compile(
    r"\b(type|typing|typing_extensions|enum|Enum|IntEnum|StrEnum|Flag|IntFlag|Generic|Protocol|ABC|ABCMeta|namedtuple"
    r"|NamedTuple|TypedDict|TYPE_CHECKING|abstractmethod)\b|dataclass|overload|contextmanager"
)
DOUBLE_METHODS = {"__init__", "__eq__", "__repr__", "__str__", "__len__"}
BARRED_NAMES = {"register", "mro", "elements", "open", "input", "law", "version_info", "with_traceback", "add_note"}
DOUBLE = re.compile(r"__[a-z]+__")


def sources():
    return [(path, path.read_text(encoding="utf-8")) for path in sorted(PACKAGE.glob("*.py"))]


def trees():
    return [(path, ast.parse(text)) for path, text in sources()]


def names_in(tree):
    """Each name that a file uses or defines, with its line."""
    for node in ast.walk(tree):
        for field in ("id", "attr", "name", "arg"):
            name = getattr(node, field, None)
            if isinstance(name, str):
                yield name, getattr(node, "lineno", 0)


def package_imports(tree):
    return [
        (node.module.split(".")[-1], alias.name)
        for node in tree.body
        if isinstance(node, ast.ImportFrom) and node.module != "__future__"
        for alias in node.names
    ]


def defined_names(tree):
    found = {node.name for node in tree.body if isinstance(node, (ast.FunctionDef, ast.ClassDef))}
    return found | {target.id for node in tree.body if isinstance(node, ast.Assign) for target in node.targets}


def iterated_calls(tree, names):
    """The calls of these functions that a loop, a comprehension, a list or a tuple goes through on the spot."""
    found = []
    for node in ast.walk(tree):
        if isinstance(node, (ast.For, ast.comprehension)):
            found.append(node.iter)
        if isinstance(node, ast.YieldFrom):
            found.append(node.value)
        if isinstance(node, ast.Call) and isinstance(node.func, ast.Name) and node.func.id in ("list", "tuple"):
            found += node.args
    return [
        call for call in found
        if isinstance(call, ast.Call) and isinstance(call.func, ast.Name) and call.func.id in names
    ]


class InterfaceTest(unittest.TestCase):
    def test_values_are_assigned_in_their_file(self):
        found = {path.stem: defined_names(tree) for path, tree in trees()}
        for module, names in VALUES.items():
            self.assertEqual(set(names) - found[module], set())

    def test_functions_and_classes_are_defined_in_their_file(self):
        for module, names in DEFINITIONS.items():
            tree = dict((path.stem, tree) for path, tree in trees())[module]
            found = {node.name for node in tree.body if isinstance(node, (ast.FunctionDef, ast.ClassDef))}
            self.assertEqual(set(names) - found, set())


    def test_methods_stand_in_their_class(self):
        found = {
            (path.stem, node.name): {part.name for part in node.body if isinstance(part, ast.FunctionDef)}
            for path, tree in trees() for node in tree.body if isinstance(node, ast.ClassDef)
        }
        for place, names in METHODS.items():
            self.assertEqual(set(names) - found[place], set(), place)


class FilesTest(unittest.TestCase):
    def test_only_plain_files(self):
        for path in PACKAGE.iterdir():
            if path.name != "__pycache__":
                self.assertRegex(path.name, r"^([a-z][a-z0-9_]*|__init__|__main__)\.py$", "L1, L14")
        self.assertTrue((PACKAGE / "__init__.py").is_file())

    def test_characters_and_lengths(self):
        for path, text in sources():
            self.assertIsNone(re.search(r"[^ -~\n]", text), f"L14 {path.name}")
            lines = text.split("\n")
            self.assertLessEqual(len(lines), 400, f"L10 {path.name}")
            self.assertLessEqual(max(map(len, lines)), 120, f"L10 {path.name}")

    def test_functions_are_short(self):
        for path, tree in trees():
            for node in ast.walk(tree):
                if isinstance(node, ast.FunctionDef):
                    self.assertLessEqual(node.end_lineno - node.lineno + 1, 40, f"L10 {path.name} {node.name}")

    def test_no_warnings(self):
        for path, text in sources():
            with warnings.catch_warnings():
                warnings.simplefilter("error")
                compile(text, str(path), "exec")


class ImportsTest(unittest.TestCase):
    def test_form(self):
        for path, tree in trees():
            for node in ast.walk(tree):
                if isinstance(node, ast.Import):
                    self.assertEqual((path.name, [a.name for a in node.names]), ("__main__.py", ["sys"]), "L2, L16")
                if isinstance(node, ast.ImportFrom):
                    self.assertIn(node, tree.body, f"L2 {path.name}")
                    self.assertEqual(node.level, 0, f"L2 {path.name}")
                    self.assertRegex(node.module, r"^(duelsets\.[a-z][a-z0-9_]*|__future__)$", f"L2 {path.name}")

    def test_each_name_comes_from_the_file_that_defines_it(self):
        found = {path.stem: defined_names(tree) for path, tree in trees()}
        for path, tree in trees():
            for module, name in package_imports(tree):
                self.assertIn(name, found[module], f"L16 {path.name}")

    def test_no_circle(self):
        below = {path.stem: {module for module, _ in package_imports(tree)} for path, tree in trees()}
        while below:
            free = [module for module in below if not below[module] & set(below)]
            self.assertTrue(free, f"L16 {sorted(below)}")
            below = {module: below[module] for module in below if module not in free}


class WordsTest(unittest.TestCase):
    def test_module_level(self):
        for path, tree in trees():
            for at, node in enumerate(tree.body):
                docstring = at == 0 and isinstance(node, ast.Expr) and isinstance(node.value, ast.Constant)
                allowed = (ast.ImportFrom, ast.FunctionDef, ast.ClassDef, ast.Assign, ast.AnnAssign)
                if path.name == "__main__.py":
                    allowed += (ast.Import, ast.If)
                self.assertTrue(docstring or isinstance(node, allowed), f"L3 {path.name}:{node.lineno}")

    def test_barred_words(self):
        for path, text in sources():
            for number, line in enumerate(text.split("\n"), 1):
                self.assertIsNone(BARRED_WORDS.search(line), f"L17 {path.name}:{number}")

    def test_names(self):
        for path, tree in trees():
            for name, line in names_in(tree):
                where = f"{path.name}:{line} {name}"
                self.assertFalse(name.startswith("_") and not DOUBLE.fullmatch(name), f"L12 {where}")
                self.assertNotIn(name, BARRED_NAMES, f"L17 {where}")

    def test_builtins(self):
        for path, tree in trees():
            allowed = BUILTINS | ({"print"} if path.name == "__main__.py" else set())
            for node in ast.walk(tree):
                if isinstance(node, ast.Name) and hasattr(builtins, node.id) and not DOUBLE.fullmatch(node.id):
                    self.assertIn(node.id, allowed, f"L8 {path.name}:{node.lineno}")
                    self.assertIsInstance(node.ctx, ast.Load, f"L15 {path.name}:{node.lineno}")
                if isinstance(node, ast.arg):
                    self.assertFalse(hasattr(builtins, node.arg), f"L15 {path.name}:{node.lineno}")

    def test_no_generator_expression_in_builtins_that_compare(self):
        for path, tree in trees():
            for node in ast.walk(tree):
                if isinstance(node, ast.Call) and isinstance(node.func, ast.Name):
                    if node.func.id in ("any", "all", "min", "max", "sum", "sorted"):
                        bare = [part for part in node.args if isinstance(part, ast.GeneratorExp)]
                        self.assertEqual(bare, [], f"L7 {path.name}:{node.lineno}")

    def test_no_name_is_a_method_and_an_attribute(self):
        methods, attributes = set(), set()
        for _, tree in trees():
            for node in ast.walk(tree):
                if isinstance(node, ast.ClassDef):
                    methods |= {part.name for part in node.body if isinstance(part, ast.FunctionDef)}
                if isinstance(node, ast.Attribute) and isinstance(node.ctx, ast.Store):
                    attributes.add(node.attr)
        # The setter of a property is the only method that is assigned.
        self.assertEqual(methods & attributes, {"kind"}, "L18")

    def test_double_underscore_methods(self):
        for path, tree in trees():
            for node in ast.walk(tree):
                if isinstance(node, ast.FunctionDef) and DOUBLE.fullmatch(node.name):
                    self.assertIn(node.name, DOUBLE_METHODS, f"L5 {path.name}:{node.lineno}")

    def test_super_only_calls_methods(self):
        for path, tree in trees():
            called = [
                node.func.value for node in ast.walk(tree)
                if isinstance(node, ast.Call) and isinstance(node.func, ast.Attribute)
            ]
            for node in ast.walk(tree):
                if isinstance(node, ast.Call) and ast.unparse(node.func) == "super":
                    self.assertTrue(node in called and not node.args, f"L5 {path.name}:{node.lineno}")

    def test_what_is_caught_and_raised(self):
        own = set(DEFINITIONS["errors"])
        for path, tree in trees():
            for node in ast.walk(tree):
                if isinstance(node, ast.ExceptHandler):
                    caught = node.type.elts if isinstance(node.type, ast.Tuple) else [node.type]
                    self.assertLessEqual({ast.unparse(part) for part in caught}, own, f"L19 {path.name}:{node.lineno}")
                if isinstance(node, ast.Raise) and node.exc is not None:
                    self.assertIsInstance(node.exc, ast.Call, f"L19 {path.name}:{node.lineno}")
                    self.assertIn(ast.unparse(node.exc.func), own, f"L19 {path.name}:{node.lineno}")

    def test_is_with_constants_only(self):
        for path, tree in trees():
            for node in ast.walk(tree):
                if isinstance(node, ast.Compare):
                    for sign, right in zip(node.ops, node.comparators):
                        if isinstance(sign, (ast.Is, ast.IsNot)):
                            self.assertIn(ast.unparse(right), ("None", "True", "False"), f"L20 {path.name}")

    def test_generators_are_iterated_at_once(self):
        makers = {
            node.name for _, tree in trees() for node in ast.walk(tree)
            if isinstance(node, ast.FunctionDef)
            and any(isinstance(part, (ast.Yield, ast.YieldFrom)) for part in ast.walk(node))
        }
        for path, tree in trees():
            used = [node for node in ast.walk(tree) if isinstance(node, ast.Name) and node.id in makers]
            self.assertEqual(len(used), len(iterated_calls(tree, makers)), f"L23 {path.name}")

    def test_numbers_and_strings(self):
        for path, tree in trees():
            for node in ast.walk(tree):
                if isinstance(node, ast.Constant):
                    self.assertNotIsInstance(node.value, (float, complex), f"L7 {path.name}:{node.lineno}")
                    if isinstance(node.value, str):
                        self.assertNotIn("%", node.value, f"L27 {path.name}:{node.lineno}")
                self.assertNotIsInstance(node, (ast.Div, ast.Global, ast.AsyncFunctionDef, ast.Await), f"L6, L7 {path}")


if __name__ == "__main__":
    unittest.main()
