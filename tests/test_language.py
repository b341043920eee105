"""The rules of LANGUAGE.md that can be read off the package's files."""

import ast
import builtins
import pathlib
import re
import unittest

PACKAGE = pathlib.Path(__file__).resolve().parent.parent / "tightwood"

STATEMENTS = (ast.Assign, ast.AugAssign, ast.AnnAssign, ast.If, ast.While, ast.For, ast.Return, ast.Break, ast.Continue,
              ast.Pass, ast.Raise, ast.Try, ast.Expr, ast.FunctionDef, ast.ClassDef, ast.ImportFrom)
EXPRESSIONS = (ast.BoolOp, ast.BinOp, ast.UnaryOp, ast.Lambda, ast.IfExp, ast.Dict, ast.Set, ast.ListComp, ast.Compare,
               ast.Call, ast.JoinedStr, ast.FormattedValue, ast.Constant, ast.Attribute, ast.Subscript, ast.Name,
               ast.List, ast.Tuple, ast.Slice)
OWN_NAMES = """len range enumerate zip min max sum abs sorted reversed int str bool list tuple dict set frozenset isinstance
ord repr any all divmod Exception ValueError TypeError KeyError IndexError LookupError ZeroDivisionError ArithmeticError
OverflowError RuntimeError NotImplementedError AttributeError StopIteration""".split()
OWN_METHODS = """append clear copy count endswith extend find get index insert isalnum isalpha isdigit islower isspace
isupper items join keys ljust lower lstrip partition pop remove replace reverse rfind rjust rpartition rsplit rstrip
setdefault split splitlines startswith strip update upper values zfill bit_length""".split()
TWO_UNDERSCORES = "__init__ __eq__ __repr__ __str__ __len__".split()
BARRED_NAMES = """register mro elements open input version_info with_traceback add_note format format_map args
encode""".split()
BARRED_WORDS = re.compile(r"\b(type|typing|typing_extensions|enum|Enum|IntEnum|StrEnum|Flag|IntFlag|Generic|Protocol|ABC"
                          r"|ABCMeta|namedtuple|NamedTuple|TypedDict|TYPE_CHECKING|abstractmethod)\b"
                          r"|dataclass|overload|contextmanager")

WALKED = "zip enumerate reversed range".split()
WALKERS = "list tuple dict sorted sum any all enumerate zip".split()
KEYWORDS = {"sorted": ["key", "reverse"], "min": ["key", "default"], "max": ["key", "default"], "sum": ["start"],
            "enumerate": ["start"], "zip": ["strict"]}


def nodes_of(tree, kind):
    return [node for node in ast.walk(tree) if isinstance(node, kind)]


def bound_names(tree):
    names = [node.arg for node in nodes_of(tree, ast.arg)]
    names += [node.id for node in nodes_of(tree, ast.Name) if isinstance(node.ctx, ast.Store)]
    names += [node.attr for node in nodes_of(tree, ast.Attribute) if isinstance(node.ctx, ast.Store)]
    return names + [node.name for node in nodes_of(tree, (ast.FunctionDef, ast.ClassDef))]


def methods_of(tree):
    return [node.name for kind in nodes_of(tree, ast.ClassDef) for node in kind.body
            if isinstance(node, ast.FunctionDef)]


def values_of(tree):
    return [node.attr for node in nodes_of(tree, ast.Attribute) if isinstance(node.ctx, ast.Store)]


def parents_of(tree):
    return {child: node for node in ast.walk(tree) for child in ast.iter_child_nodes(node)}


def is_plain(node, known):
    """Whether a value may stand at a file's top: plain ones, functions defined above, lists, tuples, dicts of them."""
    if isinstance(node, ast.Name):
        return node.id in known
    if not isinstance(node, (ast.List, ast.Tuple, ast.Dict)):
        return isinstance(node, ast.Constant) or isinstance(ast.literal_eval(node), int)
    parts = node.keys + node.values if isinstance(node, ast.Dict) else node.elts
    if not isinstance(node, ast.Tuple) and any(isinstance(part, (ast.List, ast.Dict)) for part in parts):
        return False
    return all(is_plain(part, known) for part in parts)


def called_name(node):
    return node.func.id if isinstance(node, ast.Call) and isinstance(node.func, ast.Name) else None


def is_walked_at_once(node, parent):
    if isinstance(parent, (ast.For, ast.comprehension)):
        return parent.iter is node
    if called_name(parent) in WALKERS:
        return parent.args[0] is node
    if called_name(parent) in ("min", "max"):
        return len(parent.args) == 1 and parent.keywords == []
    return isinstance(parent, ast.Call) and isinstance(parent.func, ast.Attribute) and parent.func.attr == "join"


class TestLanguage(unittest.TestCase):
    @classmethod
    def setUpClass(cls):
        cls.texts = {path.name: path.read_bytes().decode("utf-8") for path in sorted(PACKAGE.glob("*.py"))}
        cls.trees = {name: ast.parse(text) for name, text in cls.texts.items()}

    def each_node(self, kind):
        return [(name, node) for name, tree in self.trees.items() for node in nodes_of(tree, kind)]

    def test_files(self):
        self.assertIn("__init__.py", self.texts)
        for path in PACKAGE.iterdir():
            if path.name != "__pycache__":
                self.assertRegex(path.name, r"^([a-z][a-z0-9_]*|__init__|__main__)\.py$")
                self.assertNotIn(path.stem, dir(builtins))

    def test_sizes_and_signs(self):
        for name, text in self.texts.items():
            self.assertRegex(text, r"\A[ -~\n]*\Z", name)
            self.assertLessEqual(len(text.splitlines()), 400, name)
            self.assertLessEqual(max([len(line) for line in text.splitlines()] + [0]), 120, name)
        for name, node in self.each_node(ast.FunctionDef):
            self.assertLess(node.end_lineno - node.lineno, 40, (name, node.name))

    def test_words_that_stand_nowhere(self):
        for name, text in self.texts.items():
            self.assertIsNone(BARRED_WORDS.search(text), name)

    def test_imports(self):
        drawn = {name: [] for name in self.trees}
        for name, node in self.each_node(ast.ImportFrom):
            self.assertEqual(node.level, 0, name)
            self.assertRegex(node.module, r"^tightwood\.[a-z][a-z0-9_]*$")
            source = node.module.partition(".")[2] + ".py"
            defined = [part.name for part in self.trees[source].body
                       if isinstance(part, (ast.FunctionDef, ast.ClassDef))]
            defined += [part.targets[0].id for part in self.trees[source].body if isinstance(part, ast.Assign)]
            for one in node.names:
                self.assertIn(one.name, defined, (name, source))
            drawn[name].append(source)
        while drawn:
            free = [name for name in drawn if not any(source in drawn for source in drawn[name])]
            self.assertTrue(free, f"files draw from one another: {sorted(drawn)}")
            for name in free:
                drawn.pop(name)

    def test_top_of_a_module(self):
        for name, tree in self.trees.items():
            for node in tree.body[1 if ast.get_docstring(tree) else 0:]:
                self.assertIsInstance(node, (ast.ImportFrom, ast.FunctionDef, ast.ClassDef, ast.Assign), name)
                if isinstance(node, ast.Assign):
                    above = [part.name for part in tree.body
                             if isinstance(part, ast.FunctionDef) and part.lineno < node.lineno]
                    self.assertTrue(is_plain(node.value, above), (name, node.lineno))

    def test_statements_and_expressions(self):
        for name, node in self.each_node(ast.stmt):
            self.assertIsInstance(node, STATEMENTS, (name, node.lineno))
            if isinstance(node, ast.Assign):
                self.assertEqual(len(node.targets), 1, (name, node.lineno))
            if isinstance(node, (ast.For, ast.While)):
                self.assertEqual(node.orelse, [], (name, node.lineno))
            if isinstance(node, ast.Try):
                self.assertEqual(node.finalbody, [], (name, node.lineno))
        for name, node in self.each_node(ast.expr):
            self.assertIsInstance(node, EXPRESSIONS, (name, node.lineno))
            if isinstance(node, ast.ListComp):
                self.assertEqual(len(node.generators), 1, (name, node.lineno))
                self.assertLessEqual(len(node.generators[0].ifs), 1, (name, node.lineno))

    def test_functions_and_classes(self):
        for name, node in self.each_node((ast.FunctionDef, ast.ClassDef)):
            self.assertEqual(node.decorator_list, [], (name, node.name))
        for name, node in self.each_node(ast.arguments):
            self.assertEqual((node.posonlyargs, node.vararg, node.kwonlyargs, node.kwarg), ([], None, [], None), name)
        for name, node in self.each_node(ast.ClassDef):
            self.assertLessEqual(len(node.bases), 1, (name, node.name))
            for part in node.body[1 if ast.get_docstring(node) else 0:]:
                self.assertIsInstance(part, (ast.FunctionDef, ast.Pass), (name, node.name))
            made = [part.name for part in node.body if isinstance(part, ast.FunctionDef)]
            self.assertEqual(len(made), len(set(made)), (name, node.name))

    def test_names(self):
        for name, tree in self.trees.items():
            for bound in bound_names(tree):
                if bound not in TWO_UNDERSCORES:
                    self.assertRegex(bound, r"^[A-Za-z][A-Za-z0-9_]*$", name)
                self.assertNotIn(bound, BARRED_NAMES, name)
            locals_bound = [node.arg for node in nodes_of(tree, ast.arg)]
            locals_bound += [node.id for node in nodes_of(tree, ast.Name) if isinstance(node.ctx, ast.Store)]
            for bound in locals_bound:
                self.assertNotIn(bound, dir(builtins), name)
            for node in nodes_of(tree, ast.Name):
                if node.id in dir(builtins):
                    self.assertIn(node.id, OWN_NAMES, (name, node.lineno))

    def test_methods_and_values(self):
        methods = [bound for tree in self.trees.values() for bound in methods_of(tree)]
        values = [bound for tree in self.trees.values() for bound in values_of(tree)]
        self.assertEqual(sorted(set(methods) & set(values)), [])
        for name, node in self.each_node(ast.Attribute):
            self.assertIn(node.attr, methods + values + OWN_METHODS + TWO_UNDERSCORES, (name, node.lineno))

    def test_numbers_texts_and_is(self):
        for name, node in self.each_node(ast.BinOp):
            self.assertNotIsInstance(node.op, (ast.Div, ast.MatMult), (name, node.lineno))
            if isinstance(node.op, ast.Pow):
                self.assertIn(ast.literal_eval(node.right), range(65), (name, node.lineno))
        for name, node in self.each_node(ast.Constant):
            self.assertIsInstance(node.value, (int, str, type(None)), (name, node.lineno))
            if isinstance(node.value, str):
                self.assertNotIn("%", node.value, (name, node.lineno))
        for name, node in self.each_node(ast.FormattedValue):
            self.assertIsInstance(node.value, ast.Name, (name, node.lineno))
            self.assertIsNone(node.format_spec, (name, node.lineno))
        for name, node in self.each_node(ast.Compare):
            for op, side in zip(node.ops, node.comparators):
                if isinstance(op, (ast.Is, ast.IsNot)):
                    self.assertIsInstance(side, ast.Constant, (name, node.lineno))
                    self.assertIn(side.value, (None, True, False), (name, node.lineno))

    def test_local_names_are_no_imports_and_no_classes(self):
        for name, tree in self.trees.items():
            taken = [one.name for node in nodes_of(tree, ast.ImportFrom) for one in node.names]
            taken += [node.name for node in nodes_of(tree, ast.ClassDef)]
            for holder in nodes_of(tree, (ast.FunctionDef, ast.Lambda, ast.ListComp)):
                bound = [node.arg for node in nodes_of(holder, ast.arg)]
                bound += [node.id for node in nodes_of(holder, ast.Name) if isinstance(node.ctx, ast.Store)]
                self.assertEqual(sorted(set(bound) & set(taken)), [], name)

    def test_walked_at_once(self):
        for name, tree in self.trees.items():
            parents = parents_of(tree)
            for node in nodes_of(tree, ast.Call):
                by_method = isinstance(node.func, ast.Attribute) and node.func.attr in ("items", "keys", "values")
                if called_name(node) in WALKED or by_method:
                    self.assertTrue(is_walked_at_once(node, parents[node]), (name, node.lineno))
                if called_name(node) in ("set", "frozenset"):
                    beside = isinstance(parents[node], (ast.Compare, ast.BinOp))
                    self.assertTrue(beside or called_name(parents[node]) in ("sorted", "len"), (name, node.lineno))

    def test_keywords_at_calls(self):
        for name, node in self.each_node(ast.Call):
            used = [keyword.arg for keyword in node.keywords]
            if called_name(node) in OWN_NAMES:
                self.assertLessEqual(set(used), set(KEYWORDS.get(called_name(node), [])), (name, node.lineno))
            if isinstance(node.func, ast.Attribute) and node.func.attr in OWN_METHODS:
                self.assertEqual(used, [], (name, node.lineno))

    def test_one_thing_is_given_at_a_time(self):
        for name, node in self.each_node(ast.Assign):
            self.assertIsInstance(node.targets[0], (ast.Name, ast.Attribute, ast.Subscript), (name, node.lineno))

    def test_errors_taken(self):
        for name, node in self.each_node(ast.ExceptHandler):
            taken = [part.id for part in ast.walk(node.type) if isinstance(part, ast.Name)] if node.type else []
            self.assertTrue(taken, (name, node.lineno))
            self.assertFalse({"Exception", "TypeError"} & set(taken), (name, node.lineno))


if __name__ == "__main__":
    unittest.main()
