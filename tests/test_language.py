"""That the files of the package keep to the language and the interface of the document."""

import ast
import pathlib
import unittest
import warnings

PACKAGE = pathlib.Path(__file__).parent.parent / "everframe"

BUILTINS = {
    "len", "range", "enumerate", "zip", "min", "max", "sum", "abs", "sorted", "reversed", "int", "str", "bool",
    "list", "tuple", "dict", "set", "isinstance", "ord", "repr", "any", "all", "divmod", "map", "iter", "next",
    "Exception", "ValueError", "TypeError", "KeyError", "IndexError", "LookupError", "ZeroDivisionError",
    "ArithmeticError", "OverflowError", "RuntimeError", "NotImplementedError", "AttributeError", "StopIteration",
    "NotImplemented", "property", "classmethod", "staticmethod", "super",
}
METHODS = set(
    "append clear copy count endswith extend find get index insert isalnum isalpha isdigit islower isspace isupper "
    "items join keys ljust lower lstrip partition pop remove replace reverse rfind rjust rpartition rsplit rstrip "
    "setdefault split splitlines startswith strip update upper values zfill bit_length add discard isascii".split()
)
DOUBLE = set(
    "__init__ __eq__ __repr__ __str__ __len__ __enter__ __exit__ __call__ __iter__ __contains__ __add__ __mul__ "
    "__bool__".split()
)
STATEMENTS = (
    ast.Assign, ast.AugAssign, ast.If, ast.While, ast.For, ast.Return, ast.Break, ast.Continue, ast.Pass, ast.Raise,
    ast.Assert, ast.Delete, ast.Nonlocal, ast.Match, ast.With, ast.Try, ast.Expr, ast.FunctionDef, ast.ClassDef,
    ast.ImportFrom,
)
BARRED = set(
    "register mro elements open input law version_info with_traceback add_note type typing enum Enum overload "
    "dataclass contextmanager eval exec getattr setattr delattr vars dir id globals locals help exit quit os sys gc "
    "format hash round filter pow callable object float frozenset chr bytes print".split()
)
INTERFACE = {
    "errors": (
        "FrameError InvalidLead InvalidWeb InvalidPlan InvalidSharing InvalidText InvalidCommand InvalidCertificate "
        "Unsettled NotShareable NoJob NoBuffer Standstill NotReady CannotLeaveOut Busy TooMany NothingToUndo "
        "NothingToRedo"
    ),
    "leads": "Lead along best",
    "webs": "Web",
    "plain": "plain_run plain_finds plain_content",
    "needs": "needs",
    "plans": "Plan",
    "leading": "lead way lead_table unmet closed_lot",
    "flows": "flow",
    "leadcheck": "check_leads",
    "flowcheck": "check_flow",
    "runs": "Run",
    "paces": "Pace Behind Ahead Listed beginning",
    "sharings": "is_sharing apart slot_of",
    "costs": "cost cost_table clashes",
    "verdicts": "faults verdict",
    "verdictcheck": "check_verdict",
    "waiting": "follows least_waits needed_waits planned savings",
    "slots": "fewest_slots",
    "slotcheck": "check_slots",
    "states": "state_row fewest_changes",
    "changecheck": "check_changes",
    "speeds": "least_period check_period first_starts",
    "joining": "side_by_side twice cut_queue renamed",
    "boards": "Board",
    "texts": "show_web show_plan",
    "reader": "read_web read_plan",
    "tables": "lead_grid cost_grid slot_grid",
    "desk": "Desk",
}
CLASSES = {
    ("leads", "Lead"): "__init__ __mul__ __add__ __eq__ __bool__ __str__ __repr__ MOST",
    ("webs", "Web"): (
        "__init__ jobs buffers queues sizes queue_of uses maker size uses_of writers can_be_left_out __contains__ "
        "__len__ __eq__ __repr__ __str__ read MOST_JOBS MOST_BUFFERS"
    ),
    ("plans", "Plan"): (
        "__init__ web rows waits depth sharing ties set_rows set_waits set_depth set_sharing with_wait without_wait "
        "__eq__ __contains__ __len__ __str__ __repr__ read MOST_BACK"
    ),
    ("runs", "Run"): (
        "__init__ steps ready wrong frame do leave_out expected content twin after __len__ __eq__ __repr__ MOST_STEPS"
    ),
    ("boards", "Board"): (
        "__init__ snapshot status verdict slots edits undone add_wait drop_wait move set_depth share undo redo watch "
        "on_trial trial twin __len__ __eq__ __contains__"
    ),
    ("boards", "Trial"): "__init__ __enter__ __exit__",
    ("desk", "Desk"): "__init__ say",
    ("paces", "Pace"): "__call__",
    ("paces", "Behind"): "__init__ __call__",
    ("paces", "Ahead"): "__init__ __call__",
    ("paces", "Listed"): "__init__ __call__",
}


def trees():
    """The syntax of each file of the package."""
    return {path.stem: ast.parse(path.read_text()) for path in sorted(PACKAGE.glob("*.py"))}


def walk(kind):
    """All nodes of this kind, each with the name of its file."""
    return [(name, node) for name, tree in trees().items() for node in ast.walk(tree) if isinstance(node, kind)]


def docstrings(tree):
    """The nodes that are docstrings."""
    owners = [node for node in ast.walk(tree) if isinstance(node, (ast.Module, ast.ClassDef, ast.FunctionDef))]
    return [owner.body[0].value for owner in owners if ast.get_docstring(owner) is not None]


def defined(tree):
    """The names that are bound at the level of the module, except by imports."""
    names = [node.name for node in tree.body if isinstance(node, (ast.FunctionDef, ast.ClassDef))]
    for node in tree.body:
        if isinstance(node, ast.Assign):
            names += [target.id for target in node.targets]
    return names


class TestFiles(unittest.TestCase):
    def test_the_folder_holds_plain_files(self):
        for path in PACKAGE.iterdir():
            if path.name != "__pycache__":
                self.assertRegex(path.name, r"^[a-z_]+\.py$")

    def test_sizes_and_characters(self):
        for path in PACKAGE.glob("*.py"):
            text = path.read_text()
            self.assertLessEqual(text.count("\n"), 399, path)
            self.assertRegex(text, r"\A[ -~\n]*\Z", path)
            for line in text.split("\n"):
                self.assertLessEqual(len(line), 120, path)
                self.assertEqual(line, line.rstrip(), path)

    def test_functions_are_small(self):
        for name, node in walk(ast.FunctionDef):
            self.assertLessEqual(node.end_lineno - node.lineno + 1, 40, (name, node.name))

    def test_no_warnings(self):
        with warnings.catch_warnings():
            warnings.simplefilter("error")
            for path in PACKAGE.glob("*.py"):
                compile(path.read_text(), str(path), "exec")


class TestSyntax(unittest.TestCase):
    def test_statements(self):
        for name, node in walk(ast.stmt):
            self.assertIsInstance(node, STATEMENTS, (name, node.lineno))

    def test_values(self):
        for name, tree in trees().items():
            told = docstrings(tree)
            for node in ast.walk(tree):
                self.assertNotIsInstance(node, (ast.Div, ast.GeneratorExp, ast.Await, ast.NamedExpr), name)
                if isinstance(node, ast.Constant) and node not in told:
                    self.assertIn(node.value.__class__, (int, str, bool, None.__class__), name)
                    if isinstance(node.value, str):
                        self.assertNotIn("%", node.value)
                        self.assertFalse(BARRED & set(node.value.split()), (name, node.value))

    def test_names(self):
        known = set(dir(__builtins__)) if not isinstance(__builtins__, dict) else set(__builtins__)
        for name, tree in trees().items():
            imported = {part.name for node in tree.body if isinstance(node, ast.ImportFrom) for part in node.names}
            classes = {node.name for node in tree.body if isinstance(node, ast.ClassDef)}
            for node in ast.walk(tree):
                if isinstance(node, ast.Name) and isinstance(node.ctx, ast.Load) and node.id in known:
                    self.assertIn(node.id, BUILTINS, (name, node.lineno))
                if isinstance(node, ast.Name) and isinstance(node.ctx, ast.Store):
                    self.assertNotIn(node.id, known | imported | classes | BARRED, (name, node.lineno))
                if isinstance(node, ast.arg):
                    self.assertNotIn(node.arg, known | imported | classes | BARRED, (name, node.lineno))
                    self.assertIsNone(node.annotation)
                if isinstance(node, ast.Attribute):
                    self.assertNotIn(node.attr, BARRED, (name, node.lineno))

    def test_functions(self):
        allowed = ("property", "classmethod", "staticmethod", "setter")
        for name, node in walk(ast.FunctionDef):
            if node.name.startswith("__"):
                self.assertIn(node.name, DOUBLE, name)
            for mark in node.decorator_list:
                self.assertIn(mark.id if isinstance(mark, ast.Name) else mark.attr, allowed, name)
        for name, node in walk(ast.ClassDef):
            self.assertEqual(node.decorator_list, [], name)

    def test_methods_that_are_called(self):
        own = {node.name for _, node in walk(ast.FunctionDef)}
        for name, node in walk(ast.Call):
            if isinstance(node.func, ast.Attribute):
                self.assertIn(node.func.attr, METHODS | own, (name, node.lineno))
                self.assertNotEqual(node.func.attr, "sort", (name, node.lineno))

    def test_generators_are_iterated_at_once(self):
        made = {node.name for _, node in walk(ast.FunctionDef) if any(isinstance(one,
                                                                                 ast.Yield) for one in ast.walk(node))}
        self.assertEqual(made, {"plain_run", "beginning", "clashes", "faults", "savings", "first_starts"})
        taken = []
        for _, tree in trees().items():
            for node in ast.walk(tree):
                if isinstance(node, (ast.For, ast.comprehension)):
                    taken.append(node.iter)
                if isinstance(node, ast.Call) and isinstance(node.func, ast.Name) and node.func.id in ("list", "tuple"):
                    taken.extend(node.args)
        for name, node in walk(ast.Name):
            self.assertFalse(isinstance(node.ctx, ast.Store) and node.id in made, (name, node.lineno))
        calls = [node for _, tree in trees().items() for node in ast.walk(tree) if isinstance(node, ast.Call)]
        known = {(node.lineno, node.col_offset, ast.dump(node)) for node in taken}
        for node in calls:
            if isinstance(node.func, ast.Name) and node.func.id in made:
                self.assertIn((node.lineno, node.col_offset, ast.dump(node)), known)

    def test_lists_stand_where_generators_could(self):
        for name, node in walk(ast.Call):
            if isinstance(node.func, ast.Name) and node.func.id in ("any", "all"):
                self.assertIsInstance(node.args[0], ast.ListComp, (name, node.lineno))


class TestImports(unittest.TestCase):
    def test_from_the_file_that_defines_the_name(self):
        files = trees()
        for name, tree in files.items():
            for node in ast.walk(tree):
                if isinstance(node, ast.ImportFrom):
                    self.assertIn(node, tree.body, name)
                    if node.module == "math":
                        # of the library only this function, which is called by its bare name
                        self.assertEqual([(part.name, part.asname) for part in node.names], [("gcd", None)])
                        continue
                    self.assertTrue(node.module.startswith("everframe.") and node.level == 0, name)
                    for part in node.names:
                        self.assertIn(part.name, defined(files[node.module.split(".")[1]]), name)
                        self.assertIsNone(part.asname)

    def test_no_rings(self):
        behind = {}
        for name, tree in trees().items():
            imports = [node.module.split(".") for node in tree.body if isinstance(node, ast.ImportFrom)]
            behind[name] = {parts[1] for parts in imports if parts[0] == "everframe"}
        self.assertEqual(behind["__init__"], set())
        while behind:
            free = [name for name in behind if not behind[name] & set(behind)]
            self.assertTrue(free, behind)
            for name in free:
                del behind[name]

    def test_each_name_is_bound_once(self):
        for name, tree in trees().items():
            names = defined(tree)
            names += [part.name for node in tree.body if isinstance(node, ast.ImportFrom) for part in node.names]
            self.assertEqual(len(names), len(set(names)), name)


class TestInterface(unittest.TestCase):
    def test_defined_where_it_is_listed(self):
        files = trees()
        for name, listed in INTERFACE.items():
            made = [node.name for node in files[name].body if isinstance(node, (ast.FunctionDef, ast.ClassDef))]
            for one in listed.split():
                self.assertIn(one, made, name)

    def test_methods_stand_in_their_class(self):
        files = trees()
        for (name, cls), listed in CLASSES.items():
            body = [node for node in files[name].body if getattr(node, "name", "") == cls][0].body
            made = [node.name for node in body if isinstance(node, ast.FunctionDef)]
            made += [node.targets[0].id for node in body if isinstance(node, ast.Assign)]
            for one in listed.split():
                self.assertIn(one, made, (name, cls))


if __name__ == "__main__":
    unittest.main()
