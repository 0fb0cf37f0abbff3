"""Some of the rules of LANGUAGE.md, not all, checked on the files of the package."""

import ast
import builtins
import pathlib
import re
import unittest
import warnings

PACKAGE = pathlib.Path(__file__).resolve().parent.parent / "putsigns"
BUILTINS = set("""len range enumerate zip min max sum abs sorted reversed int str bool bytes list tuple dict set
isinstance ord repr any all divmod Exception ValueError TypeError KeyError IndexError LookupError ZeroDivisionError
ArithmeticError OverflowError RuntimeError NotImplementedError StopIteration""".split())
METHODS = set("""append clear copy count endswith extend find get index insert isalnum isalpha isdigit islower isspace
isupper items join keys ljust lower lstrip partition pop remove replace reverse rfind rjust rpartition rsplit rstrip
setdefault split splitlines startswith strip update upper values zfill bit_length add discard sort
title capitalize swapcase casefold center removeprefix removesuffix rindex isascii isdecimal isnumeric istitle
isidentifier isprintable""".split())
WORDS = re.compile(r"\b(type|typing|typing_extensions|enum|Enum|IntEnum|StrEnum|Flag|IntFlag|Generic|Protocol|ABC|"
                   r"ABCMeta|namedtuple|NamedTuple|TypedDict|TYPE_CHECKING|abstractmethod)\b|"
                   r"dataclass|overload|contextmanager")
BARRED = (
    ast.With, ast.Match, ast.Global, ast.Nonlocal, ast.Yield, ast.YieldFrom, ast.AsyncFunctionDef, ast.AsyncFor,
    ast.AsyncWith, ast.Await, ast.GeneratorExp, ast.NamedExpr, ast.Div, ast.MatMult, ast.Import,
)
BOUND_AT_TOP = (ast.FunctionDef, ast.ClassDef, ast.ImportFrom, ast.Assign)


def sources():
    return {path.stem: path.read_text(encoding="utf-8") for path in sorted(PACKAGE.glob("*.py"))}


def nodes(kinds):
    """Each node of these kinds in the package, with where it stands."""
    for name, source in sources().items():
        for node in ast.walk(ast.parse(source)):
            if isinstance(node, kinds):
                yield f"{name}.py:{getattr(node, 'lineno', 0)}", node


def bound_names(node):
    """The names that a node binds."""
    if isinstance(node, (ast.FunctionDef, ast.ClassDef)):
        return [node.name]
    if isinstance(node, ast.ImportFrom):
        return [alias.asname or alias.name for alias in node.names]
    if isinstance(node, ast.Name):
        return [node.id] if isinstance(node.ctx, ast.Store) else []
    if isinstance(node, ast.arg):
        return [node.arg]
    if isinstance(node, ast.Assign):
        return [name for target in node.targets for name in bound_names(target)]
    return []


class Language(unittest.TestCase):
    def test_files(self):
        for path in PACKAGE.iterdir():
            if path.name != "__pycache__":
                self.assertRegex(path.name, r"^([a-z][a-z0-9_]*|__init__|__main__)\.py$")

    def test_characters_lines_and_words(self):
        for name, source in sources().items():
            self.assertLessEqual(len(source.splitlines()), 400, name)
            for number, line in enumerate(source.split("\n"), start=1):
                where = f"{name}.py:{number}"
                self.assertLessEqual(len(line), 120, where)
                self.assertRegex(line, r"^[ -~]*\Z", where)
                self.assertIsNone(WORDS.search(line), where)

    def test_no_warnings(self):
        with warnings.catch_warnings():
            warnings.simplefilter("error")
            for name, source in sources().items():
                compile(source, name, "exec")

    def test_barred_statements_and_expressions(self):
        for where, node in nodes(BARRED):
            self.fail(f"{where}: {node}")

    def test_imports_name_the_file_that_defines(self):
        for where, node in nodes(ast.ImportFrom):
            self.assertEqual(node.level, 0, where)
            self.assertRegex(node.module, r"^putsigns\.[a-z_]+$", where)
            tree = ast.parse(sources()[node.module.split(".")[1]])
            defined = [name for top in tree.body if not isinstance(top, ast.ImportFrom) for name in bound_names(top)]
            for alias in node.names:
                self.assertIn(alias.name, defined, where)

    def test_module_level(self):
        for name, source in sources().items():
            tree = ast.parse(source)
            tops = tree.body[1:] if ast.get_docstring(tree) else tree.body
            bound = [name for top in tops for name in bound_names(top)]
            self.assertEqual(len(bound), len(set(bound)), name)
            for top in tops:
                self.assertIsInstance(top, BOUND_AT_TOP, f"{name}.py:{top.lineno}")

    def test_functions(self):
        for where, node in nodes(ast.FunctionDef):
            self.assertLessEqual(node.end_lineno - node.lineno + 1, 40, where)
            self.assertEqual(node.decorator_list, [], where)
            arguments = node.args
            self.assertEqual((arguments.vararg, arguments.kwarg, arguments.posonlyargs), (None, None, []), where)

    def test_names(self):
        for where, node in nodes((ast.FunctionDef, ast.ClassDef, ast.Name, ast.arg, ast.ImportFrom)):
            for name in bound_names(node):
                self.assertRegex(name, r"^([A-Za-z][A-Za-z0-9_]*|__(init|eq|repr|str|len)__)$", where)
                self.assertFalse(hasattr(builtins, name) and not name.startswith("__"), where)

    def test_local_names_are_no_imports_and_no_classes(self):
        for name, source in sources().items():
            tree = ast.parse(source)
            kept = {bound for top in tree.body if isinstance(top, (ast.ImportFrom, ast.ClassDef))
                    for bound in bound_names(top)}
            for node in ast.walk(tree):
                if isinstance(node, (ast.Name, ast.arg)):
                    self.assertFalse(kept & set(bound_names(node)), f"{name}.py:{node.lineno}")

    def test_no_two_files_import_from_each_other(self):
        behind = {name: {node.module.split(".")[1] for node in ast.walk(ast.parse(source))
                         if isinstance(node, ast.ImportFrom)} for name, source in sources().items()}
        while behind:
            ready = [name for name in behind if not behind[name] & set(behind)]
            self.assertTrue(ready, behind)
            behind = {name: behind[name] for name in behind if name not in ready}

    def test_builtins_are_called(self):
        kinds = set("int str bool bytes list tuple dict".split())
        for name, source in sources().items():
            tree = ast.parse(source)
            called = {id(node.func) for node in ast.walk(tree) if isinstance(node, ast.Call)}
            handlers = {id(base) for node in ast.walk(tree) if isinstance(node, ast.ClassDef) for base in node.bases}
            for node in ast.walk(tree):
                if isinstance(node, ast.Name) and hasattr(builtins, node.id) and node.id not in kinds:
                    self.assertIn(id(node), called | handlers, f"{name}.py:{node.lineno}")

    def test_iterated_at_once(self):
        for name, source in sources().items():
            tree = ast.parse(source)
            fit = set()
            for node in ast.walk(tree):
                if isinstance(node, (ast.For, ast.comprehension)):
                    fit.add(id(node.iter))
                if isinstance(node, ast.Call):
                    fit |= {id(argument) for argument in node.args}
                if isinstance(node, ast.Compare) and isinstance(node.ops[-1], (ast.In, ast.NotIn)):
                    fit.add(id(node.comparators[-1]))
            for node in ast.walk(tree):
                if isinstance(node, ast.Call):
                    called = getattr(node.func, "id", getattr(node.func, "attr", None))
                    if called in ("zip", "enumerate", "reversed", "range", "items", "keys", "values"):
                        self.assertIn(id(node), fit, f"{name}.py:{node.lineno}")

    def test_sets_are_made_in_sorted_or_len(self):
        for name, source in sources().items():
            tree = ast.parse(source)
            fit = {id(argument) for node in ast.walk(tree) if isinstance(node, ast.Call)
                   and getattr(node.func, "id", "") in ("sorted", "len") for argument in node.args}
            for node in ast.walk(tree):
                if isinstance(node, (ast.Set, ast.SetComp)) or getattr(getattr(node, "func", None), "id", "") == "set":
                    self.assertIn(id(node), fit, f"{name}.py:{node.lineno}")

    def test_no_power_but_by_a_literal(self):
        for where, node in nodes(ast.BinOp):
            if isinstance(node.op, ast.Pow):
                self.assertIsInstance(node.right, ast.Constant, where)

    def test_builtins(self):
        for where, node in nodes(ast.Name):
            if hasattr(builtins, node.id):
                self.assertIn(node.id, BUILTINS, where)

    def test_methods(self):
        own = {node.name for where, node in nodes(ast.FunctionDef)}
        for where, node in nodes(ast.Call):
            if isinstance(node.func, ast.Attribute):
                self.assertIn(node.func.attr, METHODS | own, where)

    def test_strings_and_identity(self):
        for where, node in nodes(ast.Constant):
            self.assertNotIsInstance(node.value, (float, complex), where)
            if isinstance(node.value, str):
                self.assertNotIn("%", node.value, where)
        for where, node in nodes(ast.Compare):
            for operator, right in zip(node.ops, node.comparators):
                if isinstance(operator, (ast.Is, ast.IsNot)):
                    self.assertIsInstance(right, ast.Constant, where)


if __name__ == "__main__":
    unittest.main()
