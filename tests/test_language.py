"""What can be seen from outside of the rules of the language that the package keeps to."""

import ast
import builtins
from pathlib import Path
from unittest import TestCase

PACKAGE = Path(__file__).resolve().parent.parent / "gatheryard"

BUILTINS = set("""len range enumerate zip min max sum abs sorted reversed int str bool list tuple dict set isinstance
    ord repr any all divmod True False None ValueError LookupError""".split())

METHODS = set("""append clear copy count endswith extend find get index insert isdigit items join keys pop remove
    replace reverse setdefault split startswith strip update values bit_length""".split())

# Methods of the package's own class, and attributes that it keeps.
OWN_METHODS = set("""do sweep sweeps pick undo redo heap rule names freed place_of log would_free twin _state_behind
    _move_on""".split())

WORDS = set("""type typing enum register mro elements open input law compile eval exec exit globals id locals vars
    hash next map round filter super property""".split())

AT_ONCE = {"list", "tuple", "dict", "sorted", "sum", "any", "all", "enumerate", "zip", "min", "max"}

# Parameters that the interface calls as a function of their file is called.
CALLED_ALIKE = {"worth": {"dealing"}}

CHANGES = {"append", "clear", "extend", "insert", "pop", "remove", "reverse", "setdefault", "update"}

NODES = (
    ast.Module, ast.FunctionDef, ast.ClassDef, ast.ImportFrom, ast.alias, ast.arguments, ast.arg, ast.Return,
    ast.Assign, ast.AugAssign, ast.For, ast.While, ast.If, ast.Raise, ast.Expr, ast.Pass, ast.Break, ast.Continue,
    ast.BoolOp, ast.And, ast.Or, ast.BinOp, ast.UnaryOp, ast.Not, ast.USub, ast.Add, ast.Sub, ast.Mult,
    ast.FloorDiv, ast.Mod, ast.LShift, ast.RShift, ast.BitOr, ast.BitXor, ast.BitAnd, ast.Lambda, ast.IfExp, ast.Dict,
    ast.ListComp, ast.DictComp, ast.comprehension, ast.Compare, ast.Eq, ast.NotEq, ast.Lt, ast.LtE, ast.Gt, ast.GtE,
    ast.Is, ast.IsNot, ast.In, ast.NotIn, ast.Call, ast.keyword, ast.Constant, ast.Attribute, ast.Subscript, ast.Name,
    ast.List, ast.Tuple, ast.Slice, ast.Load, ast.Store, ast.Starred, ast.Try, ast.ExceptHandler,
)

# The errors of the package: no others are caught.
OWN_ERRORS = {"BadLine", "CanNot", "NoPlace", "NothingDone", "TooMuch", "Unfit"}


def name_of(node):
    """The name that a call calls, if it is a bare one."""
    return node.func.id if isinstance(node, ast.Call) and isinstance(node.func, ast.Name) else None


class LanguageTest(TestCase):

    @classmethod
    def setUpClass(cls):
        cls.files = {path.stem: path for path in sorted(PACKAGE.glob("*.py"))}
        cls.texts = {name: path.read_text(encoding="utf-8") for name, path in cls.files.items()}
        cls.trees = {name: ast.parse(text) for name, text in cls.texts.items()}

    def nodes(self, *kinds):
        for name, tree in self.trees.items():
            for node in ast.walk(tree):
                if isinstance(node, kinds):
                    yield name, node

    def test_the_folder_holds_nothing_but_files_of_the_package(self):
        others = [path.name for path in PACKAGE.iterdir() if path.suffix != ".py" and path.name != "__pycache__"]
        self.assertEqual(others, [])
        self.assertIn("__init__", self.files)

    def test_size_and_characters(self):
        for name, text in self.texts.items():
            lines = text.split("\n")
            self.assertLessEqual(len(lines), 400, name)
            for line in lines:
                self.assertLessEqual(len(line), 120, (name, line))
            self.assertTrue(all(" " <= sign <= "~" or sign == "\n" for sign in text), name)
        for name, node in self.nodes(ast.FunctionDef):
            self.assertLessEqual(node.end_lineno - node.lineno + 1, 40, (name, node.name))

    def test_nothing_but_plain_statements_and_expressions(self):
        for name, node in self.nodes(ast.AST):
            self.assertIsInstance(node, NODES, (name, getattr(node, "lineno", None)))

    def test_sets_are_sorted_or_measured_on_the_spot(self):
        for name, node in self.nodes(ast.Call):
            inner = [arg for arg in node.args if name_of(arg) == "set"]
            node.good = name_of(node) in ("sorted", "len") and not node.keywords
            for arg in inner:
                arg.on_the_spot = node.good
        for name, node in self.nodes(ast.Call):
            if name_of(node) == "set":
                self.assertTrue(getattr(node, "on_the_spot", False), (name, node.lineno))

    def test_what_runs_once_is_iterated_at_once(self):
        good = set()
        for _, node in self.nodes(ast.For, ast.comprehension):
            good.add(id(node.iter))
        for _, node in self.nodes(ast.Call):
            if name_of(node) in AT_ONCE and node.args:
                good.add(id(node.args[0]))
                if name_of(node) == "zip":
                    good.update(id(arg) for arg in node.args)
        for name, node in self.nodes(ast.Call):
            called = node.func.attr if isinstance(node.func, ast.Attribute) else name_of(node)
            if called in ("range", "zip", "enumerate", "reversed", "items", "keys", "values"):
                self.assertIn(id(node), good, (name, node.lineno))

    def test_loops_do_not_change_what_they_go_over(self):
        for name, loop in self.nodes(ast.For):
            if name_of(loop.iter) in ("list", "sorted", "range"):
                continue
            over = {node.id for node in ast.walk(loop.iter) if isinstance(node, ast.Name)}
            for node in [own for line in loop.body for own in ast.walk(line)]:
                if isinstance(node, ast.Attribute) and node.attr in CHANGES and isinstance(node.value, ast.Name):
                    self.assertNotIn(node.value.id, over, (name, node.lineno))
                if isinstance(node, ast.Subscript) and isinstance(node.ctx, ast.Store):
                    self.assertNotIn(getattr(node.value, "id", None), over, (name, node.lineno))

    def test_imports(self):
        needs = {}
        for name, tree in self.trees.items():
            body = tree.body[1:] if isinstance(tree.body[0], ast.Expr) else tree.body
            kinds = [isinstance(node, ast.ImportFrom) for node in body]
            self.assertEqual(kinds, sorted(kinds, reverse=True), name)
            needs[name] = set()
            for node in [own for own in body if isinstance(own, ast.ImportFrom)]:
                if node.module == "math":
                    self.assertEqual([(alias.name, alias.asname) for alias in node.names], [("comb", None)], name)
                    continue
                self.assertEqual((node.level, node.module.split(".")[0]), (0, "gatheryard"), name)
                file = node.module.split(".")[1]
                needs[name].add(file)
                for alias in node.names:
                    self.assertIsNone(alias.asname)
                    self.assertIn(alias.name, self.defined(file), (name, alias.name))
        while needs:
            free = [name for name in needs if not needs[name] & set(needs)]
            self.assertNotEqual(free, [], "files import from each other")
            needs = {name: own for name, own in needs.items() if name not in free}

    def defined(self, file):
        """The names that a file binds at module level, imports apart."""
        found = []
        for node in self.trees[file].body:
            if isinstance(node, (ast.FunctionDef, ast.ClassDef)):
                found.append(node.name)
            elif isinstance(node, ast.Assign):
                found.extend(target.id for target in node.targets)
        return found

    def imported(self, file):
        return [alias.name for node in self.trees[file].body if isinstance(node, ast.ImportFrom)
                for alias in node.names]

    def test_names_are_bound_once_and_used(self):
        for file, tree in self.trees.items():
            bound = self.defined(file) + self.imported(file)
            self.assertEqual(len(bound), len(set(bound)), file)
            used = {node.id for node in ast.walk(tree) if isinstance(node, ast.Name)}
            self.assertEqual([name for name in self.imported(file) if name not in used], [], file)

    def test_local_names(self):
        for file, tree in self.trees.items():
            barred = set(self.defined(file) + self.imported(file)) - CALLED_ALIKE.get(file, set()) | set(dir(builtins))
            for function in [node for node in ast.walk(tree) if isinstance(node, (ast.FunctionDef, ast.Lambda))]:
                local = {node.arg for node in ast.walk(function) if isinstance(node, ast.arg)}
                local |= {node.id for node in ast.walk(function)
                          if isinstance(node, ast.Name) and isinstance(node.ctx, ast.Store)}
                self.assertEqual(local & barred, set(), (file, function.lineno))
                self.assertEqual(local & WORDS, set(), (file, function.lineno))

    def test_only_plain_builtins_are_used(self):
        for file, tree in self.trees.items():
            known = set(self.defined(file) + self.imported(file)) | BUILTINS
            known |= {node.arg for node in ast.walk(tree) if isinstance(node, ast.arg)}
            known |= {node.id for node in ast.walk(tree)
                      if isinstance(node, ast.Name) and isinstance(node.ctx, ast.Store)}
            for node in ast.walk(tree):
                if isinstance(node, ast.Name):
                    self.assertIn(node.id, known, (file, node.lineno))
                    self.assertFalse(node.id == "_" and isinstance(node.ctx, ast.Load), (file, node.lineno))

    def test_only_plain_methods_are_called(self):
        for name, node in self.nodes(ast.Call):
            if isinstance(node.func, ast.Attribute):
                self.assertIn(node.func.attr, METHODS | OWN_METHODS, (name, node.lineno))
                self.assertEqual(node.keywords, [], (name, node.lineno))

    def test_own_errors_alone_are_caught_around_one_return(self):
        for name, node in self.nodes(ast.Try):
            self.assertEqual((node.finalbody, node.orelse, [type(line) for line in node.body]), ([], [], [ast.Return]))
            for handler in node.handlers:
                self.assertIn(handler.type.id, OWN_ERRORS & set(self.imported(name)), (name, handler.lineno))
                self.assertIsNone(handler.name)

    def test_stars_stand_ahead_of_names_or_alone(self):
        for name, node in self.nodes(ast.Call):
            starred = [isinstance(arg, ast.Starred) for arg in node.args]
            self.assertLessEqual(sum(starred), 1, (name, node.lineno))
            if any(starred):
                behind = node.args[starred.index(True) + 1:]
                self.assertTrue(all(isinstance(arg, ast.Name) for arg in behind), (name, node.lineno))
                self.assertIsInstance(node.func, ast.Name, (name, node.lineno))

    def test_classes(self):
        for name, node in self.nodes(ast.ClassDef):
            self.assertEqual(node.decorator_list, [], name)
            methods = [line.name for line in node.body if isinstance(line, ast.FunctionDef)]
            self.assertEqual(len(methods), len(set(methods)), name)
            kept = {own.attr for own in ast.walk(node) if isinstance(own, ast.Attribute)
                    and isinstance(own.ctx, ast.Store)}
            self.assertEqual(kept & set(methods), set(), name)
            begun = [own for own in node.body if isinstance(own, ast.FunctionDef) and own.name == "__init__"]
            first = {own.attr for own in ast.walk(begun[0]) if isinstance(own, ast.Attribute)
                     and isinstance(own.ctx, ast.Store)} if begun else set()
            self.assertEqual(kept, first, name)

    def test_is_stands_beside_none_true_and_false(self):
        for name, node in self.nodes(ast.Compare):
            for sign, side in zip(node.ops, node.comparators):
                if isinstance(sign, (ast.Is, ast.IsNot)):
                    self.assertTrue(isinstance(side, ast.Constant) and side.value in (None, True, False), name)

    def test_functions_are_plain(self):
        for name, node in self.nodes(ast.FunctionDef):
            told = node.args
            self.assertEqual((told.vararg, told.kwarg, told.posonlyargs, told.kwonlyargs, node.decorator_list,
                              node.returns), (None, None, [], [], [], None), (name, node.name))
            self.assertTrue(all(arg.annotation is None for arg in told.args), (name, node.name))
            self.assertIsNotNone(ast.get_docstring(node) or node.name.startswith("__") or None, (name, node.name))

    def test_constants(self):
        for name, node in self.nodes(ast.Constant):
            self.assertIsInstance(node.value, (int, str, type(None)), (name, node.lineno))
            if isinstance(node.value, str):
                self.assertNotIn("%", node.value, (name, node.lineno))
                self.assertNotIn("\\", node.value, (name, node.lineno))
