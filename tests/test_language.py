"""The rules for the code of the package, as far as they can be looked up in its files.

What a rule allows in some places only is barred here altogether where the package can do without it.
"""

import ast
import builtins
import inspect
import pathlib
import unittest

import deedmeanings
from deedmeanings import (barring, books, chances, comparing, flows, gaps, holding, learning, ledgers, meanings, plans,
                          prices, programs, promising, ranking, readers, says, systems, texts)

FOLDER = pathlib.Path(deedmeanings.__file__).parent
FILES = sorted(FOLDER.rglob("*.py"))
LIBRARY = {"heapq": {"heappush", "heappop", "heapify", "heapreplace", "heappushpop"},
           "math": {"gcd", "lcm", "isqrt", "comb", "perm", "factorial"},
           "itertools": {"product", "combinations", "permutations"}}
BUILTINS = set("""len range enumerate zip min max sum abs sorted reversed int str bool bytes list tuple dict set
    isinstance ord repr any all divmod staticmethod Exception ValueError TypeError KeyError IndexError LookupError
    ZeroDivisionError ArithmeticError OverflowError RuntimeError NotImplementedError AttributeError
    NotImplemented""".split())
OPERATORS = set("""__lt__ __le__ __gt__ __ge__ __ne__ __add__ __sub__ __mul__ __floordiv__ __mod__ __pow__ __and__
    __or__ __xor__ __lshift__ __rshift__ __neg__ __pos__ __invert__ __abs__ __bool__ __contains__""".split())
DOUBLE = OPERATORS | {"__init__", "__eq__", "__repr__", "__str__", "__len__", "__call__"}
BARRED_NODES = (ast.Global, ast.Nonlocal, ast.AsyncFunctionDef, ast.AsyncFor, ast.AsyncWith, ast.Await, ast.Div,
                ast.GeneratorExp, ast.Set, ast.SetComp, ast.Yield, ast.YieldFrom, ast.Lambda, ast.NamedExpr,
                ast.Delete, ast.Starred, ast.With, ast.Match)
# The classes whose objects change, by their methods but not by operators.
CHANGING = ("Ledger", "Learner")
MODIFYING = {"append", "extend", "insert", "pop", "remove", "clear", "reverse", "setdefault", "update", "sort",
             "add", "discard"}
METHODS = set("""append clear copy count endswith extend find get index insert isalnum isalpha isdigit islower
    isspace isupper items join keys ljust lower lstrip partition pop remove replace reverse rfind rjust rpartition
    rsplit rstrip setdefault split splitlines startswith strip update upper values zfill bit_length""".split())
BARRED_NAMES = set("""register mro elements open input law version_info with_traceback add_note attrgetter breakpoint
    builtins compile copyright credits delattr dir eval exec exit gc getattr globals hasattr help id importlib
    license locals methodcaller os quit setattr super type vars sys""".split())
BARRED_WORDS = {"type", "typing", "enum", "Enum", "IntEnum", "Flag", "Generic", "Protocol", "ABC", "namedtuple",
                "dataclass", "overload", "contextmanager", "abstractmethod"}


def trees():
    for path in FILES:
        yield path.name, ast.parse(path.read_text(encoding="utf-8"))


def functions_of(tree):
    return [node for node in ast.walk(tree) if isinstance(node, ast.FunctionDef)]


def bound_in(node):
    """All names that a function, or a whole file, binds."""
    found = set()
    for part in ast.walk(node):
        if isinstance(part, ast.Name) and not isinstance(part.ctx, ast.Load):
            found.add(part.id)
        elif isinstance(part, ast.arg):
            found.add(part.arg)
        elif isinstance(part, (ast.FunctionDef, ast.ClassDef)):
            found.add(part.name)
        elif isinstance(part, ast.alias):
            found.add(part.name)
    return found


def is_fresh(value):
    """Whether an expression creates a list or dict."""
    if isinstance(value, ast.Call) and isinstance(value.func, ast.Name):
        return value.func.id in ("list", "dict", "sorted")
    return isinstance(value, (ast.List, ast.Dict, ast.ListComp))


def made_here(function):
    """The local names that stand, in a function, for nothing but lists and dicts that it creates itself.

    A name that a loop, a comprehension, a parameter or anything else binds, too, is none of them.
    """
    own = [target for node in ast.walk(function) if isinstance(node, ast.Assign) and is_fresh(node.value)
           for target in node.targets if isinstance(target, ast.Name)]
    other = {node.id for node in ast.walk(function) if isinstance(node, ast.Name)
             and not isinstance(node.ctx, ast.Load) and not any(node is one for one in own)}
    other |= {node.arg for node in ast.walk(function) if isinstance(node, ast.arg)}
    return {one.id for one in own} - other


def stored_attributes(every):
    """All names that some class stores as attributes."""
    return {node.attr for tree in every for node in ast.walk(tree)
            if isinstance(node, ast.Attribute) and isinstance(node.ctx, ast.Store)}


class Text(unittest.TestCase):
    def test_files(self):
        self.assertTrue(all(path.suffix == ".py" for path in FOLDER.rglob("*")
                            if path.is_file() and "__pycache__" not in path.parts))
        self.assertLessEqual(len(FILES), 100)
        for path in FILES:
            lines = path.read_text(encoding="utf-8").split("\n")
            self.assertLessEqual(len(lines), 400, path)
            self.assertTrue(path.stem.islower(), path)
            for line in lines:
                self.assertLessEqual(len(line), 120, path)
                self.assertTrue(all(" " <= letter <= "~" for letter in line), (path, line))
            for word in ("_wall", "_WallAttr"):
                self.assertNotIn(word, "\n".join(lines))

    def test_strings(self):
        for name, tree in trees():
            for node in ast.walk(tree):
                if isinstance(node, ast.Constant):
                    self.assertNotIsInstance(node.value, (float, complex, bytes), name)
                if isinstance(node, ast.Constant) and isinstance(node.value, str):
                    self.assertNotIn("%", node.value, name)
                    self.assertFalse(BARRED_WORDS & set(node.value.split()) and "\n" not in node.value
                                     and not node.value.endswith("."), (name, node.value))

    def test_short_functions_with_docstrings(self):
        for name, tree in trees():
            for function in functions_of(tree):
                self.assertLessEqual(function.end_lineno - function.lineno + 1, 40, (name, function.name))
                if not function.name.startswith("__"):
                    self.assertTrue(ast.get_docstring(function), (name, function.name))


class Names(unittest.TestCase):
    def test_builtins(self):
        every = set(dir(builtins))
        for name, tree in trees():
            bound = bound_in(tree)
            methods = {part.name for node in ast.walk(tree) if isinstance(node, ast.ClassDef)
                       for part in node.body if isinstance(part, ast.FunctionDef)}
            self.assertFalse((bound - methods) & every, name)
            self.assertFalse(methods & BUILTINS, name)
            self.assertFalse(bound & BARRED_NAMES, name)
            for node in ast.walk(tree):
                if isinstance(node, ast.Name) and isinstance(node.ctx, ast.Load) and node.id not in bound:
                    self.assertIn(node.id, BUILTINS, (name, node.lineno))

    def test_underscores(self):
        for name, tree in trees():
            for part in bound_in(tree):
                if part.startswith("__"):
                    self.assertIn(part, DOUBLE, name)
            for node in ast.walk(tree):
                if isinstance(node, ast.Attribute):
                    self.assertFalse(node.attr.startswith("__"), (name, node.lineno))
                if isinstance(node, ast.Name) and node.id == "_":
                    self.assertIsInstance(node.ctx, ast.Store, (name, node.lineno))

    def test_imports(self):
        reached = {}
        for path in FILES:
            tree = ast.parse(path.read_text(encoding="utf-8"))
            names = []
            for node in ast.walk(tree):
                self.assertNotIsInstance(node, ast.Import)
                if not isinstance(node, ast.ImportFrom):
                    continue
                self.assertIn(node, tree.body)
                self.assertTrue(all(alias.asname is None for alias in node.names))
                names.extend(alias.name for alias in node.names)
                if node.module in LIBRARY:
                    self.assertTrue({alias.name for alias in node.names} <= LIBRARY[node.module])
                    continue
                package, module = node.module.split(".")
                self.assertEqual(package, "deedmeanings")
                other = ast.parse((FOLDER / f"{module}.py").read_text(encoding="utf-8"))
                defined = {part.name for part in other.body if isinstance(part, (ast.FunctionDef, ast.ClassDef))}
                defined |= {part.targets[0].id for part in other.body if isinstance(part, ast.Assign)}
                self.assertTrue({alias.name for alias in node.names} <= defined, (path, node.module))
                reached.setdefault(path.stem, set()).add(module)
            self.assertEqual(len(names), len(set(names)), path)
            for function in functions_of(tree):
                taken = bound_in(function) - {function.name}
                classes = {part.name for part in tree.body if isinstance(part, ast.ClassDef)}
                self.assertFalse(taken & (set(names) | classes), (path, function.name))
        for start in reached:
            seen, queue = set(), list(reached[start])
            while queue:
                module = queue.pop()
                if module not in seen:
                    seen.add(module)
                    queue.extend(reached.get(module, ()))
            self.assertNotIn(start, seen)

    def test_methods_and_attributes(self):
        plain, static, attributes = {}, set(), {}
        for name, tree in trees():
            for node in ast.walk(tree):
                if not isinstance(node, ast.ClassDef):
                    continue
                for part in node.body:
                    if isinstance(part, ast.FunctionDef) and part.decorator_list:
                        self.assertEqual([ast.unparse(one) for one in part.decorator_list], ["staticmethod"])
                        static.add(part.name)
                    elif isinstance(part, ast.FunctionDef):
                        self.assertTrue(not part.name.startswith("__") or part.name in DOUBLE, part.name)
                        plain.setdefault(part.name, set()).add(node.name)
                for part in ast.walk(node):
                    if isinstance(part, ast.Attribute) and isinstance(part.ctx, ast.Store):
                        attributes.setdefault(part.attr, set()).add(node.name)
        self.assertFalse(static & set(plain))
        self.assertFalse(static & set(attributes))
        # No name is both, so that what a call means can be read off its name.
        self.assertFalse(set(plain) & set(attributes))
        for kind in (str, int, list, dict, set, tuple, bytes):
            self.assertFalse((set(plain) | static) & set(dir(kind)) - METHODS - DOUBLE)


class Statements(unittest.TestCase):
    def test_barred_statements_and_expressions(self):
        for name, tree in trees():
            for node in ast.walk(tree):
                self.assertNotIsInstance(node, BARRED_NODES, (name, getattr(node, "lineno", 0)))
                if isinstance(node, ast.Try):
                    self.assertFalse(node.handlers or node.orelse, (name, node.lineno))
                    for line in node.finalbody:
                        self.assertRegex(ast.unparse(line), r"^\(?self\._\w+(, self\._\w+)*\)? = \(?\w+(, \w+)*\)?$")
                if isinstance(node, ast.BinOp) and isinstance(node.op, ast.Pow):
                    self.assertIsInstance(node.right, ast.Constant, name)
                if isinstance(node, ast.Compare):
                    for op, right in zip(node.ops, node.comparators):
                        if isinstance(op, (ast.Is, ast.IsNot)):
                            self.assertIn(ast.unparse(right), ("None", "True", "False"), name)
                if isinstance(node, ast.Raise):
                    self.assertIsInstance(node.exc, ast.Call, name)
                    self.assertIsInstance(node.exc.func, ast.Name, name)
            for node in tree.body:
                docstring = isinstance(node, ast.Expr) and isinstance(node.value, ast.Constant)
                self.assertTrue(docstring or isinstance(node, (ast.ImportFrom, ast.FunctionDef, ast.ClassDef,
                                                               ast.Assign)), (name, node.lineno))

    def test_lists_and_dicts_at_module_level(self):
        """They are only read where they stand, or copied."""
        tables = {node.targets[0].id for _, tree in trees() for node in tree.body if isinstance(node, ast.Assign)
                  and isinstance(node.value, (ast.List, ast.Dict))}
        self.assertIn("KINDS", tables)
        for name, tree in trees():
            above = {child: node for node in ast.walk(tree) for child in ast.iter_child_nodes(node)}
            for node in ast.walk(tree):
                if not isinstance(node, ast.Name) or node.id not in tables or isinstance(node.ctx, ast.Store):
                    continue
                around = above[node]
                read = isinstance(around, ast.Subscript) and around.value is node and isinstance(around.ctx, ast.Load)
                told = isinstance(around, ast.Attribute) and around.attr == "get"
                asked = isinstance(around, ast.Compare) and node in around.comparators
                copied = isinstance(around, ast.Call) and ast.unparse(around.func) in ("dict", "list", "len")
                self.assertTrue(read or told or asked or copied, (name, node.lineno))

    def test_what_is_sorted(self):
        for name, tree in trees():
            for node in ast.walk(tree):
                if not isinstance(node, ast.Call) or not isinstance(node.func, ast.Name):
                    continue
                if node.func.id in ("sorted", "min", "max"):
                    inner = node.args[0]
                    if node.func.id == "max" and ast.unparse(inner) == "0":
                        continue
                    self.assertEqual(len(node.args), 1, name)
                    self.assertIsInstance(inner, ast.ListComp, name)
                    self.assertIn(ast.unparse(inner.elt).split("(")[0], ("str", "int", "len"), name)
                if node.func.id in ("any", "all", "sum"):
                    self.assertNotIsInstance(node.args[0], (ast.GeneratorExp, ast.Call), name)
                if node.func.id == "set":
                    self.assertIn(f"len({ast.unparse(node)})", ast.unparse(tree), name)

    def test_methods_of_builtins_and_what_is_modified(self):
        own = {part.name for _, tree in trees() for node in ast.walk(tree) if isinstance(node, ast.ClassDef)
               for part in node.body if isinstance(part, ast.FunctionDef)}
        for name, tree in trees():
            changing = [part for node in tree.body if isinstance(node, ast.ClassDef) and node.name in CHANGING
                        for part in node.body if isinstance(part, ast.FunctionDef) and part.name not in DOUBLE]
            for function in functions_of(tree):
                fresh = made_here(function)
                if function in changing:
                    fresh |= {f"self.{name}" for name in stored_attributes([tree]) if name.startswith("_")}
                for node in ast.walk(function):
                    where = (name, getattr(node, "lineno", 0))
                    if isinstance(node, ast.Call) and isinstance(node.func, ast.Attribute):
                        self.assertIn(node.func.attr, own | METHODS, where)
                        if node.func.attr in MODIFYING:
                            self.assertIn(ast.unparse(node.func.value), fresh, where)
                    if isinstance(node, ast.Subscript) and isinstance(node.ctx, ast.Store):
                        self.assertIn(ast.unparse(node.value), fresh, where)
                    if isinstance(node, ast.Attribute) and isinstance(node.ctx, ast.Store):
                        self.assertEqual(ast.unparse(node.value), "self", where)
                        self.assertTrue(function.name == "__init__" or function in changing, where)
                    if isinstance(node, ast.AugAssign):
                        self.assertIsInstance(node.op, ast.Add, where)
                        self.assertIsInstance(node.target, ast.Name, where)
                        self.assertIsInstance(node.value, ast.Constant, where)

    def test_no_call_has_the_name_of_an_attribute(self):
        # So it is seen of each call in what an operator runs that it calls no object that something holds.
        stored = stored_attributes(tree for _, tree in trees())
        self.assertTrue({"index", "name", "row", "thing", "promise"} <= stored)
        for name, tree in trees():
            for node in ast.walk(tree):
                if isinstance(node, ast.Call) and isinstance(node.func, ast.Attribute):
                    self.assertNotIn(node.func.attr, stored, (name, node.lineno))

    def test_what_changes_an_object_is_called_by_its_own_methods_alone(self):
        changing = {"undo", "redo", "trial", "assume", "drop", "propose", "withdraw", "take", "turn"}
        learning = {"is_told", "class_of", "look_up", "learn", "learn_once", "is_row_behind", "tell_apart",
                    "without_rings", "without_ring"}
        for name, tree in trees():
            for function in functions_of(tree):
                for node in ast.walk(function):
                    if isinstance(node, ast.Call) and isinstance(node.func, ast.Attribute):
                        if node.func.attr in changing:
                            self.assertIn((name, function.name), [("ledgers.py", one) for one in changing])
                        if node.func.attr in learning:
                            self.assertEqual(name, "learning.py")

    def test_the_look_at_what_is_modified(self):
        def own(text):
            return made_here(ast.parse(text).body[0])
        self.assertEqual(own("def f(xs):\n    row = [1]\n    row.append(2)"), {"row"})
        self.assertEqual(own("def f(xs):\n    row = [1]\n    xs = [row for row in xs]"), set())
        self.assertEqual(own("def f(xs):\n    row = [1]\n    for row, _ in xs:\n        row.append(2)"), set())
        self.assertEqual(own("def f(xs):\n    row, a = [1], 2\n    b = [2]"), {"b"})
        self.assertEqual(own("def f(row):\n    row = list(row)"), set())
        self.assertEqual(own("def f(xs):\n    row = [1]\n    row = xs"), set())

    def test_loops_do_not_modify_what_they_iterate_over(self):
        for name, tree in trees():
            for loop in ast.walk(tree):
                if not isinstance(loop, ast.For):
                    continue
                over = {part.id for part in ast.walk(loop.iter) if isinstance(part, ast.Name)}
                for node in [part for line in loop.body for part in ast.walk(line)]:
                    if isinstance(node, ast.Call) and isinstance(node.func, ast.Attribute):
                        if node.func.attr in MODIFYING:
                            self.assertNotIn(ast.unparse(node.func.value), over, (name, loop.lineno))
                    if isinstance(node, ast.Subscript) and isinstance(node.ctx, ast.Store):
                        self.assertNotIn(ast.unparse(node.value), over, (name, loop.lineno))

    def test_operators(self):
        for name, tree in trees():
            for function in functions_of(tree):
                if function.name == "__bool__":
                    self.assertTrue(ast.unparse(function.body[-1]).startswith("return bool("), name)
                if function.name in ("__lt__", "__le__"):
                    self.assertIn("isinstance(other", ast.unparse(function.body[0]), name)
                    self.assertIn("NotImplemented", ast.unparse(function.body[0]), name)


class Interface(unittest.TestCase):
    LISTED = {
        says.Say: ["test", "yes", "no", "of_terms", "tests", "holds", "given", "some", "every", "terms", "__and__",
                   "__or__", "__xor__", "__invert__", "__le__", "__lt__", "__eq__"],
        books.Book: ["tests", "deeds", "truths", "lets", "behind", "ahead", "more", "follows", "promises", "turned",
                     "__and__", "__or__", "__le__", "__lt__", "__eq__"],
        flows.Flow: ["deed", "check", "skip", "stop", "full", "often", "begun", "turned", "under", "put", "first",
                     "length", "is_endless", "count", "rows", "is_sure", "__rshift__", "__or__", "__and__",
                     "__sub__", "__invert__", "__pow__", "__contains__", "__bool__", "__le__", "__lt__", "__eq__"],
        readers.Reader: ["step", "ends", "way", "reads", "flow", "__len__", "__eq__"],
        meanings.Meaning: ["of_row", "truths", "states", "ways", "keeps", "ends", "leads", "__add__", "__eq__"],
        programs.Program: ["lines", "flow", "known", "dead", "decided", "clean", "__len__", "__add__", "__eq__"],
        ledgers.Ledger: ["flow", "book_now", "promises", "states", "state", "assume", "drop", "propose", "withdraw",
                         "take", "undo", "redo", "trial", "__len__", "__contains__"],
        prices.Prices: ["of", "least", "greatest", "cheapest", "dearest", "some_purse", "every_purse", "paid"],
        chances.Chances: ["of", "end", "ends", "early", "mean"],
        systems.System: ["unknowns", "solves", "least", "greatest", "is_one"],
    }
    PARAMETERS = {
        says.Say: {"test": ["name"], "yes": [], "no": [], "of_terms": ["terms"], "holds": ["true"],
                   "given": ["name", "truth"], "some": ["name"], "every": ["name"], "tests": [], "terms": []},
        books.Book: {"lets": ["ahead", "deed", "behind"], "behind": ["ahead", "deed"], "ahead": ["deed", "behind"],
                     "more": ["promises"], "follows": ["promise"], "__init__": ["tests", "deeds", "promises"]},
        flows.Flow: {"deed": ["book", "deed"], "check": ["book", "say"], "skip": ["book"], "stop": ["book"],
                     "full": ["book"], "under": ["book"], "put": ["deed", "part"], "count": ["n"], "rows": ["n"]},
        readers.Reader: {"step": ["place", "truths", "deed"], "ends": ["place"], "way": ["place"], "reads": ["row"],
                         "flow": []},
        meanings.Meaning: {"__init__": ["book", "size", "tests", "deeds"], "of_row": ["book", "row"],
                           "truths": ["state"], "states": ["say"], "ways": ["deed"], "keeps": ["promise"],
                           "ends": ["flow", "state"], "leads": ["flow"]},
        programs.Program: {"__init__": ["book", "lines"], "lines": [], "flow": [], "known": ["say"], "dead": [],
                           "decided": [], "clean": []},
        ledgers.Ledger: {"__init__": ["flow"], "flow": [], "book_now": [], "promises": [], "states": [],
                         "state": ["name"], "assume": ["name", "promise"], "drop": ["name"],
                         "propose": ["name", "flow"], "withdraw": ["name"], "take": ["name"], "undo": [], "redo": [],
                         "trial": ["work"]},
        prices.Prices: {"__init__": ["book", "costs"], "of": ["row"], "least": ["p"], "greatest": ["p"],
                        "cheapest": ["p"], "dearest": ["p"], "some_purse": ["p"], "every_purse": ["p"],
                        "paid": ["p", "purse", "cap"]},
        chances.Chances: {"__init__": ["book", "weights"], "of": ["row"], "end": ["p", "first", "last"],
                          "ends": ["p", "first"], "early": ["p", "first", "most"], "mean": ["p", "first"]},
        systems.System: {"__init__": ["book", "equations"], "unknowns": [], "solves": ["thing"], "least": ["name"],
                         "greatest": ["name"], "is_one": []},
    }
    FILES = {says.Say: says, books.Book: books, flows.Flow: flows, readers.Reader: readers,
             meanings.Meaning: meanings, programs.Program: programs, ledgers.Ledger: ledgers, prices.Prices: prices,
             chances.Chances: chances, systems.System: systems}
    FUNCTIONS = {
        flows: {"either": ["say", "p", "q"], "whilst": ["say", "p"]},
        readers: {"reader_of": ["flow"]},
        comparing: {"unlike": ["p", "q"], "cover": ["p", "q"], "is_cover": ["p", "q", "thing"], "parting": ["p", "q"],
                    "is_parting": ["p", "q", "thing"]},
        holding: {"reached": ["say", "p"], "needed": ["p", "say"], "holds": ["before", "p", "behind"],
                  "breaking": ["before", "p", "behind"], "strongest_kept": ["say", "p"], "weakest_kept": ["p", "say"],
                  "when": ["p", "q"], "thereafter": ["p", "q"]},
        promising: {"enough": ["p", "q", "promises"], "wanting": ["p", "q", "promises"],
                    "shown": ["p", "q", "promises"]},
        gaps: {"loosest": ["ahead", "whole", "behind"], "loosest_end": ["ahead", "whole"],
               "loosest_start": ["whole", "behind"]},
        programs: {"program_of": ["flow"]},
        texts: {"write_say": ["say"], "read_say": ["text"], "write_flow": ["flow"], "read_flow": ["book", "text"],
                "write_book": ["book"], "read_book": ["text"], "write_program": ["program"],
                "read_program": ["book", "text"]},
        barring: {"barred": ["p", "r"], "bars_enough": ["p", "q", "bars"], "bars_wanting": ["p", "q", "bars"],
                  "bars_shown": ["p", "q", "bars"]},
        plans: {"sure_from": ["w"], "turns_needed": ["w", "truths"], "best_plan": ["w"], "is_plan": ["w", "x", "say"],
                "trap": ["w"], "is_trap": ["w", "thing"]},
        ranking: {"row_at": ["p", "n", "index"], "index_of": ["p", "row"], "row_number": ["p", "number"],
                  "number_of": ["p", "row"]},
        learning: {"told_back": ["book", "ask", "differ"]},
    }

    def test_classes_and_methods(self):
        for kind, names in self.LISTED.items():
            for name in names:
                self.assertIn(name, vars(kind), kind)
        for kind, methods in self.PARAMETERS.items():
            for name, parameters in methods.items():
                found = [one for one in inspect.signature(getattr(kind, name)).parameters if one != "self"]
                self.assertEqual(found, parameters, name)

    def test_functions(self):
        for module, functions in self.FUNCTIONS.items():
            for name, parameters in functions.items():
                function = getattr(module, name)
                self.assertEqual(function.__module__, module.__name__)
                self.assertEqual(list(inspect.signature(function).parameters), parameters, name)

    def test_where_classes_are_defined(self):
        for kind, module in self.FILES.items():
            self.assertEqual(kind.__module__, module.__name__)
        self.assertEqual(set(self.FILES), set(self.LISTED))


if __name__ == "__main__":
    unittest.main()
