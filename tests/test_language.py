"""The form of the package's files: the rules that can be seen in the text or the tree of a file."""

import ast
import builtins
import pathlib
import re
import unittest

PACKAGE = pathlib.Path(__file__).resolve().parent.parent / "mowfloor"

NODES = """
Module Expr Constant ImportFrom alias FunctionDef arguments arg ClassDef Assign AugAssign If While For Return Break
Continue Pass Raise Try ExceptHandler Call Name Load Store Attribute Subscript Slice List Tuple Dict Set ListComp
comprehension IfExp BoolOp And Or UnaryOp Not USub UAdd Invert BinOp Add Sub Mult FloorDiv Mod Pow BitAnd BitOr BitXor
LShift RShift Compare Eq NotEq Lt LtE Gt GtE Is IsNot In NotIn Lambda JoinedStr FormattedValue keyword
""".split()

OWN_NAMES = """
len range enumerate zip min max sum abs sorted reversed int str bool list tuple dict set frozenset isinstance ord repr
any all divmod Exception ValueError TypeError KeyError IndexError LookupError ZeroDivisionError ArithmeticError
OverflowError RuntimeError NotImplementedError AttributeError StopIteration
""".split()

METHODS = """
append clear copy count endswith extend find get index insert isalnum isalpha isdigit islower isspace isupper items
join keys ljust lower lstrip partition pop remove replace reverse rfind rjust rpartition rsplit rstrip setdefault split
splitlines startswith strip update upper values zfill bit_length
""".split()

OUT_WORDS = """
type typing typing_extensions enum Enum IntEnum StrEnum Flag IntFlag Generic Protocol ABC ABCMeta namedtuple NamedTuple
TypedDict TYPE_CHECKING abstractmethod
""".split()

OUT_NAMES = """
register mro elements open input version_info with_traceback add_note attrgetter breakpoint builtins compile copyright
credits delattr dir eval exec exit gc getattr globals hasattr help id importlib license locals methodcaller os quit
setattr super vars sys chr format format_map
""".split()

# Walked where they stand, in these calls, in a loop or in a comprehension.
WALKED = "zip enumerate reversed range items keys values".split()
WALKERS = "list tuple dict sorted sum any all enumerate zip min max join".split()

KEYWORDS = {
    "sorted": ["key", "reverse"], "min": ["key", "default"], "max": ["key", "default"], "sum": ["start"],
    "enumerate": ["start"], "zip": ["strict"],
}

SPECIAL_METHODS = ["__init__", "__eq__", "__repr__", "__str__", "__len__"]


def files():
    return sorted(path for path in PACKAGE.rglob("*") if path.is_file() and "__pycache__" not in path.parts)


def trees():
    return [(path, ast.parse(path.read_text())) for path in files()]


def nodes(kind):
    return [(path, node) for path, tree in trees() for node in ast.walk(tree) if isinstance(node, kind)]


def called(node):
    """The name by which a call calls."""
    if not isinstance(node, ast.Call):
        return None
    return node.func.attr if isinstance(node.func, ast.Attribute) else getattr(node.func, "id", None)


def walked_names(node):
    """The names of what a loop walks, itself or through one of Python's own."""
    if isinstance(node, ast.Name):
        return [node.id]
    if called(node) not in WALKED:
        return []
    inner = [node.func.value] if isinstance(node.func, ast.Attribute) else node.args
    return [name for part in inner for name in walked_names(part)]


def top_names(tree):
    found = []
    for node in tree.body:
        if isinstance(node, (ast.FunctionDef, ast.ClassDef)):
            found.append(node.name)
        elif isinstance(node, ast.Assign):
            found.extend(target.id for target in node.targets)
    return found


def imported(tree):
    return [name.name for node in tree.body if isinstance(node, ast.ImportFrom) for name in node.names]


class Texts(unittest.TestCase):
    def test_file_names(self):
        self.assertTrue((PACKAGE / "__init__.py").is_file())
        for path in files():
            self.assertRegex(path.name, r"^([a-z][a-z0-9_]*|__init__|__main__)\.py$")
            self.assertFalse(path.stem in dir(builtins) or path.stem in OUT_WORDS or path.stem.startswith("test"))

    def test_signs_and_sizes(self):
        for path in files():
            text = path.read_text()
            self.assertRegex(text, r"\A[ -~\n]*\Z", path.name)
            self.assertLessEqual(len(text.split("\n")), 400, path.name)
            self.assertLessEqual(max(len(row) for row in text.split("\n")), 120, path.name)

    def test_words_that_stand_nowhere(self):
        for path in files():
            text = path.read_text()
            self.assertEqual([word for word in OUT_WORDS if re.search(rf"\b{word}\b", text)], [], path.name)
            self.assertIsNone(re.search("dataclass|overload|contextmanager", text), path.name)

    def test_no_percent_and_no_other_escapes_within_texts(self):
        for path, node in nodes(ast.Constant):
            if isinstance(node.value, str):
                self.assertNotIn("%", node.value, path.name)
                self.assertRegex(node.value, r"\A[ -~\n\t]*\Z", path.name)
            self.assertTrue(node.value is None or isinstance(node.value, (int, str)), path.name)


class Trees(unittest.TestCase):
    def test_nodes(self):
        for path, node in nodes(ast.AST):
            self.assertIn(node.__class__.__name__, NODES, f"{path.name}: {getattr(node, 'lineno', '')}")

    def test_imports_come_from_the_file_that_defines_the_name_and_go_no_round(self):
        tops = {path.stem: top_names(tree) for path, tree in trees()}
        draws = {}
        for path, tree in trees():
            rows = [node for node in ast.walk(tree) if isinstance(node, ast.ImportFrom)]
            self.assertEqual([node for node in rows if node not in tree.body], [])
            draws[path.stem] = []
            for node in rows:
                self.assertRegex(node.module, r"^mowfloor\.[a-z_]+$")
                self.assertEqual(node.level, 0)
                stem = node.module.split(".")[1]
                draws[path.stem].append(stem)
                for name in node.names:
                    self.assertIn(name.name, tops[stem])
                    self.assertIsNone(name.asname)
        done = []
        while len(done) < len(draws):
            ready = [stem for stem in draws if stem not in done and all(other in done for other in draws[stem])]
            self.assertNotEqual(ready, [], "files draw from one another")
            done.extend(ready)

    def test_imported_names_are_used_and_top_names_bound_once(self):
        for path, tree in trees():
            used = [node.id for node in ast.walk(tree) if isinstance(node, ast.Name)]
            self.assertEqual([name for name in imported(tree) if name not in used], [], path.name)
            bound = top_names(tree) + imported(tree)
            self.assertEqual(len(set(bound)), len(bound), path.name)

    def test_functions(self):
        for path, node in nodes(ast.FunctionDef):
            where = f"{path.name}: {node.name}"
            self.assertLessEqual(node.end_lineno - node.lineno + 1, 40, where)
            self.assertEqual(node.decorator_list, [], where)
            self.assertFalse(node.args.vararg or node.args.kwarg or node.args.kwonlyargs or node.args.posonlyargs, where)
            self.assertTrue(node.name in SPECIAL_METHODS or not node.name.startswith("_"), where)

    def test_classes(self):
        for path, node in nodes(ast.ClassDef):
            self.assertLessEqual(len(node.bases), 1)
            self.assertEqual(node.decorator_list + node.keywords, [])
            for part in node.body:
                self.assertIsInstance(part, (ast.FunctionDef, ast.Pass))

    def test_methods_and_values_of_objects(self):
        methods = {}
        values = set()
        for path, node in nodes(ast.ClassDef):
            own = [part.name for part in node.body if isinstance(part, ast.FunctionDef)]
            self.assertEqual(len(set(own)), len(own), node.name)
            methods.update((name, node.name) for name in own if name not in SPECIAL_METHODS)
            self.assertEqual([name for name in own if name.startswith("__") and name != "__init__"], [], node.name)
            for part in ast.walk(node):
                if isinstance(part, ast.Attribute) and isinstance(part.ctx, ast.Store):
                    self.assertEqual(part.value.id, "self", node.name)
                    values.add(part.attr)
        kinds = (str, int, list, dict, set, frozenset, tuple, bytes)
        self.assertEqual(values & set(methods), set())
        self.assertEqual([name for name in values | set(methods) if any(hasattr(kind, name) for kind in kinds)], [])
        for path, node in nodes(ast.Attribute):
            if isinstance(node.ctx, ast.Store):
                self.assertIn(node.attr, values, path.name)

    def test_what_lies_at_a_files_top_is_plain_and_only_read(self):
        for path, tree in trees():
            kept = [node for node in tree.body if isinstance(node, ast.Assign)]
            for node in kept:
                self.assertIsNotNone(ast.literal_eval(node.value), path.name)
            shared = [node.targets[0].id for node in kept if isinstance(node.value, (ast.Dict, ast.List))]
            for node in ast.walk(tree):
                if isinstance(node, ast.Call):
                    self.assertFalse([part for part in node.args if getattr(part, "id", None) in shared], path.name)
                if called(node) in "append clear extend insert pop remove reverse setdefault update".split():
                    self.assertNotIn(getattr(node.func.value, "id", None), shared, path.name)
                if isinstance(node, ast.Subscript) and isinstance(node.ctx, ast.Store):
                    self.assertNotIn(getattr(node.value, "id", None), shared, path.name)

    def test_bound_names(self):
        for path, tree in trees():
            outer = imported(tree) + [node.name for node in tree.body if isinstance(node, ast.ClassDef)]
            for node in ast.walk(tree):
                name = None
                if isinstance(node, ast.arg):
                    name = node.arg
                elif isinstance(node, ast.Name) and isinstance(node.ctx, ast.Store):
                    name = node.id
                if name is not None:
                    self.assertRegex(name, r"^[A-Za-z][A-Za-z0-9_]*$", path.name)
                    self.assertNotIn(name, outer + dir(builtins), path.name)

    def test_pythons_own_names_and_methods(self):
        own = [node.name for path, node in nodes(ast.FunctionDef)]
        for path, tree in trees():
            for node in ast.walk(tree):
                if isinstance(node, ast.Name) and node.id in dir(builtins):
                    self.assertIn(node.id, OWN_NAMES, path.name)
                if isinstance(node, ast.Call) and isinstance(node.func, ast.Attribute):
                    self.assertIn(node.func.attr, METHODS + own, path.name)

    def test_statements(self):
        for path, node in nodes((ast.For, ast.While)):
            self.assertEqual(node.orelse, [], path.name)
        for path, node in nodes(ast.Assign):
            self.assertEqual(len(node.targets), 1, path.name)
        for path, node in nodes(ast.ListComp):
            self.assertEqual(len(node.generators), 1, path.name)
            self.assertLessEqual(len(node.generators[0].ifs), 1, path.name)
        for path, node in nodes(ast.Try):
            self.assertEqual(node.finalbody, [], path.name)
        for path, node in nodes(ast.Compare):
            for operator, right in zip(node.ops, node.comparators):
                if isinstance(operator, (ast.Is, ast.IsNot)):
                    self.assertTrue(isinstance(right, ast.Constant) and right.value in (None, True, False), path.name)

    def test_names_that_are_not_used(self):
        for path, node in nodes((ast.Name, ast.Attribute)):
            name = node.id if isinstance(node, ast.Name) else node.attr
            self.assertNotIn(name, OUT_NAMES, path.name)
            self.assertTrue(name in SPECIAL_METHODS or not name.startswith("_"), path.name)

    def test_walked_at_once(self):
        for path, tree in trees():
            walked = [id(node.iter) for node in ast.walk(tree) if isinstance(node, (ast.For, ast.comprehension))]
            for node in ast.walk(tree):
                if called(node) in WALKERS and node.args:
                    walked.extend(id(part) for part in (node.args if called(node) == "zip" else node.args[:1]))
            for node in ast.walk(tree):
                if called(node) in WALKED:
                    self.assertIn(id(node), walked, f"{path.name}: {node.lineno}")

    def test_what_a_loop_walks_is_not_changed_in_it(self):
        for path, loop in nodes(ast.For):
            names = walked_names(loop.iter)
            for node in ast.walk(ast.Module(body=loop.body, type_ignores=[])):
                changed = None
                if called(node) in "append clear extend insert pop remove reverse setdefault update".split():
                    changed = node.func.value
                elif isinstance(node, ast.Subscript) and isinstance(node.ctx, ast.Store):
                    changed = node.value
                if isinstance(changed, ast.Name):
                    self.assertNotIn(changed.id, names, f"{path.name}: {node.lineno}")

    def test_keywords_and_kinds(self):
        own = [node.name for path, node in nodes((ast.FunctionDef, ast.ClassDef))]
        for path, node in nodes(ast.Call):
            if called(node) not in own:
                for keyword in node.keywords:
                    self.assertIn(keyword.arg, KEYWORDS.get(called(node), []), f"{path.name}: {node.lineno}")
            if called(node) == "isinstance":
                kinds = node.args[1].elts if isinstance(node.args[1], ast.Tuple) else [node.args[1]]
                for kind in kinds:
                    self.assertIn(kind.id, ["int", "str", "bool", "list", "tuple", "dict"] + own, path.name)

    def test_no_sets_kept_no_powers_of_a_name_no_annotations(self):
        for path, tree in trees():
            for node in ast.walk(tree):
                self.assertFalse(isinstance(node, ast.Set) or called(node) in ("set", "frozenset"), path.name)
                if isinstance(node, ast.BinOp) and isinstance(node.op, ast.Pow):
                    self.assertIsInstance(node.right, ast.Constant, path.name)
                if isinstance(node, ast.arg):
                    self.assertIsNone(node.annotation, path.name)
                if isinstance(node, ast.FunctionDef):
                    self.assertIsNone(node.returns, path.name)

    def test_errors(self):
        own = [node.name for path, node in nodes(ast.ClassDef)]
        for path, node in nodes(ast.Raise):
            self.assertIn(called(node.exc), own, path.name)
        for path, node in nodes(ast.ExceptHandler):
            self.assertIn(getattr(node.type, "id", None), own + ["KeyError", "ZeroDivisionError", "ValueError"], path.name)
