"""The package keeps to LANGUAGE.md, as far as a look at each file can tell.

Not every rule of it is looked at: those that a slip most easily breaks.
"""

import ast
import pathlib
import re
import unittest

PACKAGE = pathlib.Path(__file__).resolve().parent.parent / "fingercord"

BUILT_IN = set("""len range enumerate zip min max sum abs sorted reversed int str bool list tuple dict set frozenset
    isinstance ord repr any all divmod Exception ValueError TypeError KeyError IndexError LookupError
    ZeroDivisionError ArithmeticError OverflowError RuntimeError NotImplementedError AttributeError
    StopIteration""".split())

METHODS = set("""append clear copy count endswith extend find get index insert isalnum isalpha isdigit islower isspace
    isupper items join keys ljust lower lstrip partition pop remove replace reverse rfind rjust rpartition rsplit
    rstrip setdefault split splitlines startswith strip update upper values zfill bit_length __init__""".split())

NOT_ALLOWED = (ast.With, ast.Delete, ast.Global, ast.Nonlocal, ast.Assert, ast.Yield, ast.YieldFrom, ast.Await,
               ast.AsyncFunctionDef, ast.AsyncFor, ast.AsyncWith, ast.Match, ast.Import, ast.Set, ast.SetComp,
               ast.DictComp, ast.GeneratorExp, ast.NamedExpr, ast.Starred, ast.Div, ast.AnnAssign)

WORDS_NOWHERE = set("""type typing typing_extensions enum Enum IntEnum StrEnum Flag IntFlag Generic Protocol ABC ABCMeta
    namedtuple NamedTuple TypedDict TYPE_CHECKING abstractmethod register mro elements open input version_info
    with_traceback add_note""".split())

NAMES_NOT_USED = set("""attrgetter breakpoint builtins compile copyright credits delattr dir eval exec exit gc getattr
    globals hasattr help id importlib license locals methodcaller os quit setattr super vars sys hash next map
    filter format object print chr float bytes""".split())


def files():
    return sorted(PACKAGE.glob("*.py"))


def bound_at_top(tree):
    for node in tree.body:
        if isinstance(node, (ast.FunctionDef, ast.ClassDef)):
            yield node.name
        elif isinstance(node, ast.ImportFrom):
            for alias in node.names:
                yield alias.asname or alias.name
        elif isinstance(node, ast.Assign):
            yield node.targets[0].id


def bound_within(tree):
    for node in ast.walk(tree):
        if isinstance(node, ast.arg):
            yield node.arg
        elif isinstance(node, ast.Name) and isinstance(node.ctx, ast.Store) and node not in top_targets(tree):
            yield node.id
        elif isinstance(node, ast.ExceptHandler) and node.name:
            yield node.name


def top_targets(tree):
    return [node.targets[0] for node in tree.body if isinstance(node, ast.Assign)]


def imports_of(tree):
    return [node for node in tree.body if isinstance(node, ast.ImportFrom)]


def defined_at_top(tree):
    defs = [node.name for node in tree.body if isinstance(node, (ast.FunctionDef, ast.ClassDef))]
    return defs + [target.id for target in top_targets(tree)]


class Language(unittest.TestCase):
    def setUp(self):
        self.texts = {path: path.read_bytes().decode("ascii") for path in files()}
        self.trees = {path: ast.parse(text) for path, text in self.texts.items()}

    def nodes(self):
        for path, tree in self.trees.items():
            for node in ast.walk(tree):
                yield f"{path.name}:{getattr(node, 'lineno', 0)}", node

    def test_just_python_files_in_one_folder(self):
        found = [path.name for path in PACKAGE.iterdir() if path.name != "__pycache__"]
        self.assertIn("__init__.py", found)
        for name in found:
            self.assertRegex(name, r"\A[a-z0-9_]+\.py\Z")

    def test_signs_and_sizes(self):
        for path, text in self.texts.items():
            self.assertRegex(text, r"\A[ -~\n]*\Z", path.name)
            self.assertLessEqual(text.count("\n"), 399, path.name)
            for line in text.split("\n"):
                self.assertLessEqual(len(line), 120, path.name)

    def test_defs_are_short_and_plain(self):
        for place, node in self.nodes():
            if isinstance(node, ast.FunctionDef):
                self.assertLessEqual(node.end_lineno - node.lineno + 1, 40, place)
                self.assertEqual(node.decorator_list, [], place)
                told = node.args
                self.assertFalse(told.vararg or told.kwarg or told.kwonlyargs or told.posonlyargs, place)

    def test_nothing_outside_the_language(self):
        for place, node in self.nodes():
            self.assertNotIsInstance(node, NOT_ALLOWED, place)
            if isinstance(node, (ast.For, ast.While)):
                self.assertEqual(node.orelse, [], place)
            if isinstance(node, ast.Assign):
                self.assertEqual(len(node.targets), 1, place)
            if isinstance(node, ast.Try):
                self.assertEqual(node.finalbody, [], place)
            if isinstance(node, ast.Constant):
                self.assertIsInstance(node.value, (int, str, type(None)), place)
            if isinstance(node, ast.BinOp) and isinstance(node.op, ast.Pow):
                self.assertIsInstance(node.right, ast.Constant, place)

    def test_words_that_stand_nowhere(self):
        for path, text in self.texts.items():
            words = set(re.findall(r"\w+", text))
            self.assertEqual(words & WORDS_NOWHERE, set(), path.name)
            self.assertNotRegex(text, "dataclass|overload|contextmanager", path.name)

    def test_names(self):
        for place, node in self.nodes():
            names = [getattr(node, part, None) for part in ("id", "attr", "arg", "name")]
            for name in names:
                if isinstance(name, str):
                    self.assertRegex(name, r"\A([A-Za-z][A-Za-z0-9_]*|__init__)\Z", place)
            if isinstance(node, ast.Name):
                self.assertNotIn(node.id, NAMES_NOT_USED, place)

    def test_only_known_names_are_read(self):
        for path, tree in self.trees.items():
            known = BUILT_IN | set(bound_at_top(tree)) | set(bound_within(tree))
            for node in ast.walk(tree):
                if isinstance(node, ast.Name):
                    self.assertIn(node.id, known, f"{path.name}:{node.lineno}")

    def test_methods_called(self):
        own = {node.name for place, node in self.nodes() if isinstance(node, ast.FunctionDef)}
        for place, node in self.nodes():
            if isinstance(node, ast.Call) and isinstance(node.func, ast.Attribute):
                self.assertIn(node.func.attr, METHODS | own, place)

    def test_each_name_once(self):
        for path, tree in self.trees.items():
            names = list(bound_at_top(tree))
            self.assertEqual(len(names), len(set(names)), path.name)
            imported = {alias.name for node in imports_of(tree) for alias in node.names}
            classes = {node.name for node in tree.body if isinstance(node, ast.ClassDef)}
            self.assertEqual(set(bound_within(tree)) & (imported | classes | BUILT_IN), set(), path.name)

    def test_imports(self):
        defined = {path.stem: defined_at_top(tree) for path, tree in self.trees.items()}
        draws = {path.stem: [node.module.split(".")[1] for node in imports_of(tree)]
                 for path, tree in self.trees.items()}
        for path, tree in self.trees.items():
            for node in imports_of(tree):
                package, stem = node.module.split(".")
                self.assertEqual((package, node.level), ("fingercord", 0), path.name)
                for alias in node.names:
                    self.assertIn(alias.name, defined[stem], path.name)
        for stem in draws:
            reached = []
            ahead = list(draws[stem])
            while ahead:
                reached.append(ahead.pop())
                ahead.extend(other for other in draws[reached[-1]] if other not in reached)
            self.assertNotIn(stem, reached)

    def test_the_interface_stands_in_its_file_alone(self):
        holders = [path.name for path, tree in self.trees.items() if "answers" in defined_at_top(tree)]
        self.assertEqual(holders, ["cords.py"])
        answers = [node for node in self.trees[PACKAGE / "cords.py"].body
                   if isinstance(node, ast.FunctionDef) and node.name == "answers"][0]
        self.assertEqual([told.arg for told in answers.args.args], ["calls"])
        self.assertEqual(answers.args.defaults, [])


if __name__ == "__main__":
    unittest.main()
