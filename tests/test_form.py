"""[3] and the form of the code: what can be seen of the rules L1 to L28 in the files of the package."""

import ast
import builtins
import pathlib
import re
import unittest

PACKAGE = pathlib.Path(__file__).resolve().parent.parent / "gridfile"
BUILTINS = set("""len range enumerate zip min max sum abs sorted reversed int str bool bytes list tuple dict set frozenset
    isinstance ord repr any all divmod type iter next Exception ValueError TypeError KeyError IndexError LookupError
    ZeroDivisionError ArithmeticError OverflowError RuntimeError NotImplementedError NotImplemented map super property
    staticmethod classmethod""".split())
METHODS = set("""append clear copy count endswith extend find get index insert isalnum isalpha isdigit islower isspace
    isupper items join keys ljust lower lstrip partition pop remove replace reverse rfind rjust rpartition rsplit rstrip
    removeprefix setdefault split splitlines startswith strip update upper values zfill bit_length add discard""".split())
BARRED = set("""register mro elements open input law version_info with_traceback add_note attrgetter breakpoint compile
    copyright credits delattr dir eval exec exit gc getattr globals hasattr help id importlib license locals methodcaller
    os quit setattr vars global""".split())
BARRED_WORDS = re.compile(r"\b(typing|typing_extensions|enum|Enum|IntEnum|StrEnum|Flag|IntFlag|Generic|Protocol|ABC|ABCMeta|"
                          r"namedtuple|NamedTuple|TypedDict|TYPE_CHECKING|abstractmethod)\b|dataclass|overload|contextmanager")
DECORATORS = {"property", "staticmethod", "classmethod"}


def files():
    return {path.stem: path for path in sorted(PACKAGE.rglob("*.py"))}


def trees():
    return {name: ast.parse(path.read_text(encoding="utf-8")) for name, path in files().items()}


def nodes(kind):
    for name, tree in trees().items():
        for node in ast.walk(tree):
            if isinstance(node, kind):
                yield name, node


def functions():
    return nodes((ast.FunctionDef, ast.Lambda))


def bound_at_top(tree):
    for node in tree.body:
        if isinstance(node, (ast.FunctionDef, ast.ClassDef)):
            yield node.name
        elif isinstance(node, ast.ImportFrom):
            yield from (alias.asname or alias.name for alias in node.names)
        elif isinstance(node, ast.Assign):
            yield from (target.id for target in node.targets)


def parameters(function):
    told = function.args
    every = [*told.posonlyargs, *told.args, *told.kwonlyargs, told.vararg, told.kwarg]
    return [parameter.arg for parameter in every if parameter is not None]


class Files(unittest.TestCase):
    def test_the_folder_has_plain_files_only(self):
        for path in PACKAGE.rglob("*"):
            if path.name != "__pycache__" and path.parent.name != "__pycache__":
                self.assertRegex(path.name, r"^(__init__|[a-z][a-z0-9_]*)\.py$")

    def test_sizes_and_signs(self):
        for name, path in files().items():
            text = path.read_text(encoding="utf-8")
            self.assertRegex(text, r"\A[ -~\n]*\Z", name)
            rows = text.split("\n")
            self.assertLessEqual(len(rows), 399, name)
            self.assertLessEqual(max(len(row) for row in rows), 120, name)
            self.assertFalse([row for row in rows if row != row.rstrip()], name)

    def test_functions_have_at_most_40_lines(self):
        for name, function in functions():
            self.assertLessEqual(function.end_lineno - function.lineno + 1, 40, (name, function.lineno))

    def test_each_file_class_and_public_function_says_what_it_is_for(self):
        for name, tree in trees().items():
            self.assertTrue(ast.get_docstring(tree), name)
            for node in ast.walk(tree):
                if isinstance(node, (ast.FunctionDef, ast.ClassDef)) and not node.name.startswith("_"):
                    self.assertTrue(ast.get_docstring(node), (name, node.name))


class Imports(unittest.TestCase):
    def test_only_from_the_very_file_that_defines_the_name(self):
        defined = {name: {bound for node in tree.body if not isinstance(node, ast.ImportFrom)
                          for bound in bound_at_top(ast.Module([node], []))} for name, tree in trees().items()}
        for name, node in nodes((ast.Import, ast.ImportFrom)):
            self.assertIsInstance(node, ast.ImportFrom, name)
            self.assertEqual((node.level, node.module.split(".")[0], node.module.count(".")), (0, "gridfile", 1), name)
            for alias in node.names:
                self.assertIsNone(alias.asname)
                self.assertIn(alias.name, defined[node.module.split(".")[1]], (name, alias.name))

    def test_each_import_is_used(self):
        for name, tree in trees().items():
            used = {node.id for node in ast.walk(tree) if isinstance(node, ast.Name)}
            for node in tree.body:
                if isinstance(node, ast.ImportFrom):
                    for alias in node.names:
                        self.assertIn(alias.name, used, name)

    def test_no_two_files_import_from_each_other(self):
        needs = {name: {node.module.split(".")[1] for node in tree.body if isinstance(node, ast.ImportFrom)}
                 for name, tree in trees().items()}
        while needs:
            free = [name for name in needs if not needs[name] & set(needs)]
            self.assertTrue(free, sorted(needs))
            for name in free:
                del needs[name]


class Names(unittest.TestCase):
    def test_the_top_of_a_file(self):
        for name, tree in trees().items():
            names = list(bound_at_top(tree))
            self.assertEqual(sorted(names), sorted(set(names)), name)
            for at, node in enumerate(tree.body):
                if at == 0:
                    self.assertIsInstance(node, ast.Expr)
                else:
                    self.assertIsInstance(node, (ast.FunctionDef, ast.ClassDef, ast.ImportFrom, ast.Assign), name)

    def test_plain_names(self):
        for name, node in nodes((ast.Name, ast.arg, ast.Attribute, ast.FunctionDef, ast.ClassDef, ast.keyword)):
            word = getattr(node, "id", None) or getattr(node, "arg", None) or getattr(node, "attr", None) \
                or getattr(node, "name", None)
            if word is not None and word != "_":
                self.assertRegex(word, r"^(_?[A-Za-z][A-Za-z0-9_]*|__init__|__enter__|__exit__)$", name)
                self.assertNotIn(word, BARRED, name)

    def test_no_name_of_a_builtin_a_class_or_an_import_is_bound_again(self):
        for name, tree in trees().items():
            taken = set(dir(builtins))
            for node in tree.body:
                if isinstance(node, (ast.ClassDef, ast.ImportFrom)):
                    taken |= set(bound_at_top(ast.Module([node], [])))
            for node in ast.walk(tree):
                if isinstance(node, ast.FunctionDef):
                    self.assertFalse(set(parameters(node)) & taken, (name, node.lineno))
                if isinstance(node, ast.Name) and isinstance(node.ctx, ast.Store):
                    self.assertNotIn(node.id, taken, (name, node.lineno))
                if isinstance(node, ast.ExceptHandler):
                    self.assertNotIn(node.name, taken, (name, node.lineno))
            for top in bound_at_top(tree):
                self.assertNotIn(top, dir(builtins), name)

    def test_only_the_builtins_that_are_allowed(self):
        for name, node in nodes(ast.Name):
            if node.id in dir(builtins):
                self.assertIn(node.id, BUILTINS, (name, node.lineno))

    def test_only_own_methods_and_those_of_builtin_values_that_are_allowed(self):
        own = {node.name for _, node in functions() if isinstance(node, ast.FunctionDef)}
        for name, node in nodes(ast.Call):
            if isinstance(node.func, ast.Attribute):
                self.assertIn(node.func.attr, METHODS | own, (name, node.lineno))

    def test_lists_and_dicts_at_the_top_are_only_read(self):
        kept = {target.id for tree in trees().values() for node in tree.body if isinstance(node, ast.Assign)
                and isinstance(node.value, (ast.List, ast.Dict)) for target in node.targets}
        for name, tree in trees().items():
            above = {child: node for node in ast.walk(tree) for child in ast.iter_child_nodes(node)}
            for node in ast.walk(tree):
                if isinstance(node, ast.Name) and node.id in kept and isinstance(node.ctx, ast.Load):
                    read = above[node]
                    is_asked = isinstance(read, ast.Attribute) and read.attr in ("get", "items", "keys", "values")
                    self.assertTrue(isinstance(read, (ast.Subscript, ast.Compare)) or is_asked, (name, node.lineno))

    def test_words_that_do_not_occur(self):
        for name, path in files().items():
            self.assertIsNone(BARRED_WORDS.search(path.read_text(encoding="utf-8")), name)


class Statements(unittest.TestCase):
    def test_none_that_is_not_allowed(self):
        barred = (ast.AsyncFunctionDef, ast.AsyncFor, ast.AsyncWith, ast.Await, ast.Global, ast.Import, ast.Div,
                  ast.MatMult, ast.AnnAssign)
        for name, node in nodes(barred):
            self.fail((name, node))

    def test_decorators(self):
        for name, node in nodes((ast.FunctionDef, ast.ClassDef)):
            for decorator in node.decorator_list:
                self.assertIsInstance(node, ast.FunctionDef)
                self.assertIn(decorator.id, DECORATORS, (name, node.name))

    def test_is_is_for_none_and_kinds_only(self):
        for name, node in nodes(ast.Compare):
            for sign, right in zip(node.ops, node.comparators):
                if isinstance(sign, (ast.Is, ast.IsNot)):
                    told = ast.unparse(right)
                    self.assertTrue(told in ("None", "True", "False") or told.startswith("type("), (name, node.lineno))

    def test_caught_errors_are_own_ones(self):
        for name, node in nodes(ast.ExceptHandler):
            self.assertIsNotNone(node.type, name)
            for kind in getattr(node.type, "elts", [node.type]):
                self.assertNotIn(kind.id, set(dir(builtins)) - {"KeyError", "ZeroDivisionError"}, (name, node.lineno))

    def test_errors_are_created_on_the_spot(self):
        for name, node in nodes(ast.Raise):
            if node.exc is not None:
                self.assertIsInstance(node.exc, ast.Call, (name, node.lineno))
                self.assertTrue(node.exc.func.id[0].isupper(), (name, node.lineno))

    def test_literals(self):
        for name, node in nodes(ast.Constant):
            self.assertNotIsInstance(node.value, (float, complex), (name, node.lineno))
        for name, path in files().items():
            for row in path.read_text(encoding="utf-8").split("\n"):
                self.assertNotIn(chr(37), row, name)

    def test_generators_are_iterated_on_the_spot(self):
        made = {node.name for _, node in functions() if isinstance(node, ast.FunctionDef)
                and any(isinstance(part, (ast.Yield, ast.YieldFrom)) for part in ast.walk(node))}
        for name, tree in trees().items():
            above = {child: node for node in ast.walk(tree) for child in ast.iter_child_nodes(node)}
            for node in ast.walk(tree):
                if isinstance(node, ast.Name) and node.id in made:
                    call = above[node]
                    self.assertIsInstance(call, ast.Call, (name, node.lineno))
                    self.assertNotIsInstance(above[call], (ast.Return, ast.Assign, ast.Compare), (name, node.lineno))


if __name__ == "__main__":
    unittest.main()
