"""The package's files held against what can be seen of ../shared/LANGUAGE.md by their rows and their syntax."""

import ast
import builtins
import re
import unittest
from pathlib import Path

PACKAGE = Path(__file__).resolve().parent.parent / "overfold"

NODES = """Module Expr Constant Import ImportFrom alias FunctionDef arguments arg Lambda ClassDef Assign AugAssign If
While For Return Break Continue Pass Raise Try ExceptHandler Call keyword Attribute Subscript Slice Name Load Store
List Tuple Dict Set ListComp comprehension IfExp BoolOp And Or BinOp Add Sub Mult FloorDiv Mod Pow BitAnd BitOr
BitXor LShift RShift Invert UnaryOp USub Not Compare Eq NotEq Lt LtE Gt GtE Is IsNot In NotIn JoinedStr
FormattedValue""".split()
OWN_NAMES = """len range enumerate zip min max sum abs sorted reversed int str bool list tuple dict set frozenset
isinstance ord repr any all divmod Exception ValueError TypeError KeyError IndexError LookupError ZeroDivisionError
ArithmeticError OverflowError RuntimeError NotImplementedError AttributeError StopIteration""".split()
DUNDERS = "__init__ __eq__ __repr__ __str__ __len__".split()
WORDS = """type typing typing_extensions enum Enum IntEnum StrEnum Flag IntFlag Generic Protocol ABC ABCMeta namedtuple
NamedTuple TypedDict TYPE_CHECKING abstractmethod""".split()
WITHIN_WORDS = "dataclass overload contextmanager".split()
NO_ATTRIBUTES = """register mro elements open input version_info with_traceback add_note format format_map
sort casefold encode""".split()
# Names of modules and interactive helpers that builtins does not always hold.
NO_NAMES = "attrgetter builtins copyright credits exit gc help importlib license methodcaller os quit sys".split()
METHODS = """append clear copy count endswith extend find get index insert isalnum isalpha isdigit islower isspace isupper
items join keys ljust lower lstrip partition pop remove replace reverse rfind rjust rpartition rsplit rstrip setdefault
split splitlines startswith strip update upper values zfill bit_length""".split()
KEYWORDS = {"sorted": ["key", "reverse"], "min": ["key", "default"], "max": ["key", "default"], "sum": ["start"],
            "enumerate": ["start"], "zip": ["strict"]}
WALKED = "zip enumerate reversed range items keys values".split()
WALKERS = "list tuple dict sorted sum any all enumerate zip min max join".split()


def files():
    return sorted(PACKAGE.rglob("*.py"))


def nodes_of(path):
    return list(ast.walk(ast.parse(path.read_text(encoding="utf-8"))))


def names_bound(node):
    if isinstance(node, (ast.FunctionDef, ast.ClassDef)):
        return [node.name]
    if isinstance(node, ast.arg):
        return [node.arg]
    if isinstance(node, ast.Name) and isinstance(node.ctx, ast.Store):
        return [node.id]
    if isinstance(node, ast.ExceptHandler) and node.name:
        return [node.name]
    return []


def called_name(node):
    if not isinstance(node, ast.Call):
        return None
    return node.func.id if isinstance(node.func, ast.Name) else getattr(node.func, "attr", None)


def top_names(path):
    """What a file binds at its top, imports too."""
    bound = []
    for node in ast.parse(path.read_text(encoding="utf-8")).body:
        if isinstance(node, ast.ImportFrom):
            bound += [alias.name for alias in node.names]
        elif isinstance(node, ast.Assign):
            bound += names_bound(node.targets[0])
        else:
            bound += names_bound(node)
    return bound


def drawn_from(path):
    return [PACKAGE / (node.module.partition(".")[2] + ".py")
            for node in nodes_of(path) if isinstance(node, ast.ImportFrom)]


class Language(unittest.TestCase):
    def each_node(self, *kinds):
        for path in files():
            for node in nodes_of(path):
                if not kinds or isinstance(node, kinds):
                    yield f"{path.name}:{getattr(node, 'lineno', 0)}", node

    def test_package_holds_python_files_alone(self):
        for path in PACKAGE.rglob("*"):
            if path.name != "__pycache__" and path.parent.name != "__pycache__":
                self.assertRegex(path.name, r"^([a-z][a-z0-9_]*|__init__|__main__)\.py$")
        self.assertIn("__init__.py", [path.name for path in files()])

    def test_signs_and_sizes(self):
        for path in files():
            text = path.read_text(encoding="utf-8")
            self.assertRegex(text, r"\A[ -~\n]*\Z", path.name)
            rows = text.split("\n")
            self.assertLessEqual(len(rows), 400, path.name)
            self.assertLessEqual(max(len(row) for row in rows), 120, path.name)

    def test_words_that_stand_nowhere(self):
        for path in files():
            text = path.read_text(encoding="utf-8")
            found = set(re.findall(r"\w+", text))
            self.assertEqual(found & set(WORDS), set(), path.name)
            for word in WITHIN_WORDS:
                self.assertNotIn(word, text, path.name)

    def test_functions_are_short_and_plain(self):
        for where, node in self.each_node(ast.FunctionDef):
            self.assertLessEqual(node.end_lineno - node.lineno + 1, 40, where)
            self.assertEqual(node.decorator_list, [], where)
            self.assertIsNone(node.args.vararg or node.args.kwarg, where)
            self.assertEqual(node.args.kwonlyargs + node.args.posonlyargs, [], where)

    def test_only_the_listed_forms(self):
        for where, node in self.each_node():
            self.assertIn(node.__class__.__name__, NODES, where)
            if isinstance(node, (ast.For, ast.While)):
                self.assertEqual(node.orelse, [], where)
            if isinstance(node, ast.Try):
                self.assertEqual(node.finalbody, [], where)
            if isinstance(node, ast.Assign):
                self.assertEqual(len(node.targets), 1, where)
            if isinstance(node, ast.ListComp):
                self.assertEqual(len(node.generators), 1, where)
                self.assertLessEqual(len(node.generators[0].ifs), 1, where)
            if isinstance(node, ast.FormattedValue):
                self.assertIsInstance(node.value, ast.Name, where)
            if isinstance(node, ast.Constant):
                self.assertNotIsInstance(node.value, (float, bytes, complex), where)

    def test_is_stands_beside_none_true_false(self):
        for where, node in self.each_node(ast.Compare):
            for operator, right in zip(node.ops, node.comparators):
                if isinstance(operator, (ast.Is, ast.IsNot)):
                    self.assertIsInstance(right, ast.Constant, where)
                    self.assertIn(right.value, (None, True, False), where)

    def test_imports_are_of_the_package_and_come_first(self):
        for where, node in self.each_node(ast.Import, ast.ImportFrom):
            self.assertIsInstance(node, ast.ImportFrom, where)
            self.assertEqual((node.level, node.col_offset), (0, 0), where)
            self.assertRegex(node.module, r"^overfold\.[a-z]+$", where)
            source = nodes_of(PACKAGE / (node.module.partition(".")[2] + ".py"))
            bound = [name for inner in source for name in names_bound(inner)]
            for alias in node.names:
                self.assertIn(alias.name, bound, where)
                self.assertIsNone(alias.asname, where)

    def test_names_are_plain(self):
        for where, node in self.each_node():
            for name in names_bound(node):
                if name not in DUNDERS:
                    self.assertRegex(name, r"^[A-Za-z][A-Za-z0-9_]*$", where)
                    self.assertNotIn(name, NO_NAMES + NO_ATTRIBUTES, where)
            if isinstance(node, (ast.arg, ast.Name)):
                for name in names_bound(node):
                    self.assertFalse(hasattr(builtins, name), f"{where} {name}")

    def test_pythons_own_names_are_those_listed(self):
        for where, node in self.each_node(ast.Name):
            if hasattr(builtins, node.id):
                self.assertIn(node.id, OWN_NAMES, where)
            self.assertNotIn(node.id, NO_NAMES, where)

    def test_attributes_are_free(self):
        for where, node in self.each_node(ast.Attribute):
            self.assertNotIn(node.attr, NO_ATTRIBUTES, where)
            if node.attr not in DUNDERS:
                self.assertFalse(node.attr.startswith("_"), where)

    def test_no_name_is_a_method_and_a_value(self):
        methods, values = set(), set()
        for where, node in self.each_node(ast.ClassDef, ast.Attribute):
            if isinstance(node, ast.ClassDef):
                methods |= {inner.name for inner in node.body if isinstance(inner, ast.FunctionDef)}
            elif isinstance(node.ctx, ast.Store):
                values.add(node.attr)
        self.assertEqual(methods & values, set())

    def test_own_methods_and_values_are_free(self):
        pythons = {name for kind in (str, int, list, tuple, dict, set, bytes) for name in dir(kind)}
        for where, node in self.each_node(ast.ClassDef, ast.Attribute):
            if isinstance(node, ast.ClassDef):
                names = [inner.name for inner in node.body if isinstance(inner, ast.FunctionDef)]
                self.assertEqual(set(names) & pythons - set(DUNDERS), set(), where)
            elif isinstance(node.ctx, ast.Store):
                self.assertNotIn(node.attr, pythons, where)

    def test_a_files_top_holds_plain_values(self):
        for path in files():
            body = ast.parse(path.read_text(encoding="utf-8")).body
            functions = [node.name for node in body if isinstance(node, ast.FunctionDef)]
            for node in body:
                if isinstance(node, ast.Assign):
                    self.assertIsInstance(node.targets[0], ast.Name, f"{path.name}:{node.lineno}")
                    for inner in ast.walk(node.value):
                        self.assertIsInstance(inner, (ast.Constant, ast.Tuple, ast.Dict, ast.List, ast.Name, ast.Load))
                        if isinstance(inner, (ast.Dict, ast.List)):
                            self.assertIs(inner, node.value, f"{path.name}:{node.lineno}")
                        if isinstance(inner, ast.Name):
                            self.assertIn(inner.id, functions, f"{path.name}:{node.lineno}")

    def test_a_files_top_is_only_read(self):
        """A list or dict there is asked by an index, in, len or a walk, and never handed on as it is."""
        for path in files():
            nodes = nodes_of(path)
            above = {inner: node for node in nodes for inner in ast.iter_child_nodes(node)}
            kept = [node.targets[0].id for node in nodes if isinstance(node, ast.Assign) and node.col_offset == 0
                    and isinstance(node.value, (ast.Dict, ast.List))]
            for node in nodes:
                if isinstance(node, ast.Name) and node.id in kept and isinstance(node.ctx, ast.Load):
                    where = f"{path.name}:{node.lineno}"
                    self.assertIsInstance(above[node], (ast.Subscript, ast.Compare, ast.For), where)
                    self.assertNotIsInstance(getattr(above[node], "ctx", None), ast.Store, where)

    def test_a_files_top_binds_each_name_once(self):
        for path in files():
            for node in ast.parse(path.read_text(encoding="utf-8")).body:
                self.assertIsInstance(node, (ast.Expr, ast.ImportFrom, ast.FunctionDef, ast.ClassDef, ast.Assign))
            bound = top_names(path)
            self.assertEqual(len(bound), len(set(bound)), path.name)
            inner = [name for node in nodes_of(path) if isinstance(node, (ast.arg, ast.Name, ast.ExceptHandler))
                     for name in names_bound(node) if getattr(node, "col_offset", 1) > 0]
            self.assertEqual(set(inner) & set(bound), set(), path.name)

    def test_a_call_alone_is_the_one_statement_of_a_value(self):
        for path in files():
            tree = ast.parse(path.read_text(encoding="utf-8"))
            for node in ast.walk(tree):
                if isinstance(node, ast.Expr) and node != tree.body[0]:
                    self.assertIsInstance(node.value, ast.Call, f"{path.name}:{node.lineno}")

    def test_no_two_files_draw_from_one_another(self):
        for path in files():
            reached, waiting = set(), drawn_from(path)
            while waiting:
                other = waiting.pop()
                if other not in reached:
                    reached.add(other)
                    waiting += drawn_from(other)
            self.assertNotIn(path, reached)

    def test_values_are_given_through_a_local_name(self):
        for path in files():
            for node in nodes_of(path):
                if isinstance(node, ast.Attribute) and isinstance(node.ctx, ast.Store):
                    self.assertIsInstance(node.value, ast.Name, f"{path.name}:{node.lineno}")
                    self.assertNotIn(node.value.id, top_names(path), f"{path.name}:{node.lineno}")

    def test_methods_are_own_ones_or_those_listed(self):
        own = [inner.name for where, node in self.each_node(ast.ClassDef) for inner in node.body
               if isinstance(inner, ast.FunctionDef)]
        for where, node in self.each_node(ast.Call):
            if isinstance(node.func, ast.Attribute):
                self.assertIn(node.func.attr, own + METHODS + DUNDERS, where)

    def test_keywords_stand_where_they_may(self):
        for where, node in self.each_node(ast.Call):
            name = called_name(node)
            if isinstance(node.func, ast.Attribute) or name in OWN_NAMES:
                for keyword in node.keywords:
                    self.assertIn(keyword.arg, KEYWORDS.get(name, []), where)

    def test_walked_at_once(self):
        for path in files():
            fine = []
            for node in nodes_of(path):
                if isinstance(node, (ast.For, ast.comprehension)):
                    fine.append(node.iter)
                if called_name(node) in WALKERS:
                    fine += node.args
            for node in nodes_of(path):
                if called_name(node) in WALKED:
                    self.assertIn(ast.dump(node), [ast.dump(inner) for inner in fine], f"{path.name}:{node.lineno}")

    def test_sets_are_not_kept(self):
        for path in files():
            nodes = nodes_of(path)
            above = {inner: node for node in nodes for inner in ast.iter_child_nodes(node)}
            for node in nodes:
                if called_name(node) == "set" or isinstance(node, ast.Set):
                    outer = above[node]
                    while isinstance(outer, ast.BinOp):
                        outer = above[outer]
                    fine = isinstance(outer, ast.Compare) or called_name(outer) in ("sorted", "len")
                    self.assertTrue(fine, f"{path.name}:{node.lineno}")

    def test_texts_have_no_percent_sign(self):
        for where, node in self.each_node(ast.Constant):
            if isinstance(node.value, str):
                self.assertNotIn("%", node.value, where)

    def test_errors_are_made_on_the_spot_and_taken_by_name(self):
        for where, node in self.each_node(ast.Raise, ast.ExceptHandler):
            if isinstance(node, ast.Raise):
                self.assertIsInstance(node.exc, ast.Call, where)
            else:
                self.assertIsInstance(node.type, ast.Name, where)
                self.assertNotIn(node.type.id, ["Exception", "TypeError"], where)


if __name__ == "__main__":
    unittest.main()
