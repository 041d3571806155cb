"""That what a property or a plain operator runs changes nothing but what it made itself.

The functions that these reach are found by names: a bare name stands for the function or the class of the
package that it names, a name behind a dot for every method and every property that is called so. So more
functions are looked at than a run reaches, never fewer.
"""

import ast
import pathlib
import unittest

PACKAGE = pathlib.Path(__file__).parent.parent / "everframe"

PLAIN = {"__eq__", "__repr__", "__str__", "__len__"}
OPERATORS = {"__contains__", "__add__", "__mul__", "__bool__"}
CHANGING = {
    "append", "clear", "extend", "insert", "pop", "remove", "reverse", "setdefault", "update", "sort", "add", "discard",
}
READING = {
    "copy", "count", "endswith", "find", "get", "index", "isalnum", "isalpha", "isascii", "isdigit", "islower",
    "isspace", "isupper", "items", "join", "keys", "ljust", "lower", "lstrip", "partition", "replace", "rfind", "rjust",
    "rpartition", "rsplit", "rstrip", "split", "splitlines", "startswith", "strip", "upper", "values", "zfill",
}
BUILTINS = {
    "len", "range", "enumerate", "zip", "min", "max", "sum", "abs", "sorted", "reversed", "int", "str", "bool",
    "list", "tuple", "dict", "set", "isinstance", "ord", "repr", "any", "all", "divmod",
}


class Shelf:
    """The functions, the classes and the methods of some files, by their names."""

    def __init__(self, texts):
        self.functions, self.methods, self.getters, self.inits, self.classes = {}, {}, {}, {}, set()
        self.roots = []
        for name, text in texts.items():
            for node in ast.parse(text).body:
                if isinstance(node, ast.FunctionDef):
                    self.functions.setdefault(node.name, []).append((f"{name}.{node.name}", node))
                if isinstance(node, ast.ClassDef):
                    self.classes.add(node.name)
                    for part in node.body:
                        if isinstance(part, ast.FunctionDef):
                            self._take(f"{name}.{node.name}.{part.name}", node.name, part)

    def _take(self, where, owner, node):
        marks = [mark.id for mark in node.decorator_list if isinstance(mark, ast.Name)]
        if node.name == "__init__":
            self.inits[owner] = (where, node)
        elif "property" in marks:
            self.getters.setdefault(node.name, []).append((where, node))
            self.roots.append((where, node))
        elif not node.decorator_list or "classmethod" in marks or "staticmethod" in marks:
            self.methods.setdefault(node.name, []).append((where, node))
            if node.name in PLAIN | OPERATORS:
                self.roots.append((where, node))

    def next_to(self, node):
        """What a function may run: functions and methods that it calls, properties that it reads."""
        found = []
        for part in ast.walk(node):
            if isinstance(part, ast.Call) and isinstance(part.func, ast.Name):
                found += self.functions.get(part.func.id, [])
                found += [self.inits[part.func.id]] if part.func.id in self.inits else []
            if isinstance(part, ast.Call) and isinstance(part.func, ast.Attribute):
                found += self.methods.get(part.func.attr, [])
            if isinstance(part, ast.Attribute) and isinstance(part.ctx, ast.Load):
                found += self.getters.get(part.attr, [])
        return found

    def reached(self):
        """A dict from the places of all functions that the roots reach to them."""
        found = {}
        rest = list(self.roots)
        while rest:
            where, node = rest.pop()
            if where not in found:
                found[where] = node
                rest += self.next_to(node)
        return found

    def faults(self):
        """The place and the line of each statement that the roots reach and that changes something else."""
        return sorted({(where, line) for where, node in self.reached().items() for line in self._faults_of(node)})

    def _faults_of(self, node):
        made = created(node)
        own = {one.arg for one in ast.walk(node) if isinstance(one, ast.arg)}
        own |= {one.id for one in ast.walk(node) if isinstance(one, ast.Name) and isinstance(one.ctx, ast.Store)}
        for part in ast.walk(node):
            if isinstance(part, (ast.Nonlocal, ast.Global)):
                yield part.lineno
            for target in targets_of(part):
                if not self._may_be_set(node, target, made):
                    yield target.lineno
            if isinstance(part, ast.AugAssign) and not adds_plainly(part, made):
                yield part.lineno
            if isinstance(part, ast.Call) and not self._may_be_called(part.func, made, own):
                yield part.lineno

    def _may_be_set(self, node, target, made):
        if isinstance(target, ast.Name):
            return True
        if isinstance(target, ast.Attribute):
            # only a new object gets attributes
            holder = node.args.args[0].arg if node.args.args else None
            return node.name == "__init__" and isinstance(target.value, ast.Name) and target.value.id == holder
        return isinstance(target.value, ast.Name) and target.value.id in made

    def _may_be_called(self, func, made, own):
        if isinstance(func, ast.Name):
            # neither a parameter nor what a variable holds
            known = func.id in self.functions or func.id in self.classes or func.id in BUILTINS
            return known and func.id not in own
        if not isinstance(func, ast.Attribute):
            return False
        if func.attr in CHANGING:
            return isinstance(func.value, ast.Name) and func.value.id in made and func.attr not in ("sort", "add")
        return func.attr in READING or func.attr in self.methods


def targets_of(part):
    """The names, items and attributes that a node assigns or deletes."""
    if isinstance(part, (ast.Name, ast.Attribute, ast.Subscript)) and not isinstance(part.ctx, ast.Load):
        return [part]
    return []


def created(node):
    """The local variables to which a function only assigns lists and dicts that it makes itself."""
    given = {}
    for part in ast.walk(node):
        if isinstance(part, ast.Assign):
            for target in part.targets:
                if isinstance(target, ast.Name):
                    given.setdefault(target.id, []).append(is_made(part.value))
    taken = {one.arg for one in ast.walk(node) if isinstance(one, ast.arg)}
    for part in ast.walk(node):
        if isinstance(part, (ast.For, ast.comprehension)):
            taken |= {one.id for one in ast.walk(part.target) if isinstance(one, ast.Name)}
        if isinstance(part, ast.Assign):
            for target in part.targets:
                if isinstance(target, ast.Tuple):
                    taken |= {one.id for one in ast.walk(target) if isinstance(one, ast.Name)}
    return {name for name, values in given.items() if all(values) and name not in taken}


def is_made(value):
    """Whether a value is a list or a dict that nobody else has."""
    if isinstance(value, (ast.List, ast.ListComp, ast.Dict)):
        return True
    return isinstance(value, ast.Call) and isinstance(value.func, ast.Name) and value.func.id in ("list", "dict",
                                                                                                  "sorted")


def adds_plainly(part, made):
    """Whether += and the like stand at a local variable and cannot change what it held before."""
    if not isinstance(part.target, ast.Name):
        return False
    return isinstance(part.value, ast.Constant) and part.value.value.__class__ is int or part.target.id in made


def package():
    """The texts of the files of the package."""
    return {path.stem: path.read_text() for path in sorted(PACKAGE.glob("*.py"))}


class TestPackage(unittest.TestCase):
    def test_nothing_else_is_changed(self):
        self.assertEqual(Shelf(package()).faults(), [])

    def test_the_roots_and_what_they_reach(self):
        shelf = Shelf(package())
        roots = [where for where, _ in shelf.roots]
        for where in (
            "webs.Web.__eq__", "webs.Web.__repr__", "webs.Web.__str__", "webs.Web.__len__", "plans.Plan.__eq__",
            "plans.Plan.__repr__", "plans.Plan.__str__", "plans.Plan.__len__", "runs.Run.__eq__", "runs.Run.__repr__",
            "runs.Run.__len__", "boards.Board.__eq__", "boards.Board.__len__", "leads.Lead.__eq__",
            "leads.Lead.__repr__", "leads.Lead.__str__", "webs.Web.jobs", "webs.Web.buffers", "webs.Web.queues",
            "webs.Web.sizes", "plans.Plan.web", "plans.Plan.rows", "plans.Plan.waits", "plans.Plan.depth",
            "plans.Plan.sharing", "plans.Plan.ties", "runs.Run.steps", "runs.Run.ready", "runs.Run.wrong",
            "boards.Board.status", "boards.Board.verdict", "boards.Board.slots", "boards.Board.edits",
            "boards.Board.undone", "leads.Lead.__mul__", "leads.Lead.__add__", "leads.Lead.__bool__",
            "webs.Web.__contains__", "plans.Plan.__contains__", "boards.Board.__contains__",
        ):
            self.assertIn(where, roots)
        reached = shelf.reached()
        for where in (
            "texts.show_plan", "texts.show_web", "texts._row_lines", "orders.listed_rows", "groups.apart_groups",
            "webs.Web.listed", "webs.Web.size", "webs.Web._ask_job", "errors.NoJob.__init__", "runs.Run._is_ready",
            "kinds.within", "orders.is_wait", "leads.Lead.__init__",
        ):
            self.assertIn(where, reached)
        # what changes something is not among them
        for where in ("plans.Plan.set_rows", "boards.Board.undo", "orders.Orders.marks", "orders.Orders.starts"):
            self.assertNotIn(where, reached)


class TestShelf(unittest.TestCase):
    """That the faults are seen, in files that have them."""

    def lines(self, *texts):
        return [line for _, line in Shelf({f"file{at}": text for at, text in enumerate(texts)}).faults()]

    def test_a_list_in_an_item(self):
        text = (
            "def listed_rows(web):\n    rows = {queue: [] for queue in web.queues}\n    for job in web.jobs:\n"
            "        rows[web.queue_of(job)].append(job)\n    return rows\n"
        )
        plan = "class Plan:\n    def __str__(self):\n        return str(listed_rows(self.web))\n"
        web = "class Web:\n    def queue_of(self, job):\n        return self.queue[job]\n"
        self.assertEqual(self.lines(text, plan, web), [4])
        self.assertEqual(self.lines(text, plan.replace("__str__", "told"), web), [])
        self.assertEqual(self.lines(text, plan.replace("    def __str__", "    @property\n    def told"), web), [4])

    def test_what_counts(self):
        head = "class Box:\n    def __len__(self):\n"
        tail = "        return len(self.rows)\n"
        for row in (
            "self.many = 3", "self.rows[0] = 3", "self.rows.append(3)", "del self.rows[0]", "self.many += 1",
            "rows = self.rows\n        rows.append(3)", "rows = {k: k for k in self.rows}\n        rows[1] = 2",
            "rows = self.told()", "rows = self.calls[0]()", "rows, k = [], 1\n        rows.append(k)",
            "rows = []\n        rows = self.rows\n        rows.clear()", "total = self.rows\n        total += [3]",
            "rows = []\n        rows.sort()", "for row in self.rows:\n            row.pop()",
        ):
            self.assertTrue(self.lines(f"{head}        {row}\n{tail}"), row)
        for row in (
            "rows = []\n        rows.append(3)\n        rows[0] = 4", "k = 1\n        k += 1", "rows = [3]; del rows[0]",
            "rows = dict(self.rows)\n        rows[1] = 2", "rows = sorted(self.rows)\n        rows.reverse()",
            "rows = [row for row in self.rows]\n        rows += [3]",
        ):
            self.assertEqual(self.lines(f"{head}        {row}\n{tail}"), [], row)

    def test_through_others(self):
        box = (
            "class Box:\n    @property\n    def many(self):\n        return first(self)\n"
            "    @many.setter\n    def many(self, value):\n        self._many = value\n"
            "    def shut(self):\n        self.open = False\n"
        )
        self.assertEqual(self.lines(box, "def first(box):\n    return second(box)\n",
                                    "def second(box):\n    box.shut()\n    return 1\n"), [9])
        self.assertEqual(self.lines(box, "def first(box):\n    return second(box)\n",
                                    "def second(box):\n    return 1\n"), [])
        # a property that another one reads, and an object that is made
        self.assertEqual(self.lines("class Box:\n    def __eq__(self, other):\n        return other.many == 1\n"
                                    "    @property\n    def many(self):\n        self.k = 1\n        return 1\n"), [6])
        self.assertEqual(self.lines("class Lot:\n    def __init__(self, k):\n        self.k = k\n        k.k = 2\n",
                                    "class Box:\n    def __str__(self):\n        return str(Lot(3))\n"), [4])


if __name__ == "__main__":
    unittest.main()
