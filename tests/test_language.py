"""The files of the package keep to the main rules of LANGUAGE.md (the numbers in the names of the tests)."""

import ast
import builtins
import functools
import pathlib
import unittest

from looping import CHANGING, changed_in_loops

ROOT = pathlib.Path(__file__).resolve().parent.parent / "tagwebs"

BUILTINS = set(
    "len range enumerate zip min max sum abs sorted reversed int str bool list tuple dict set isinstance ord repr any "
    "all divmod property staticmethod classmethod super ValueError True False None iter".split()
)
METHODS = set(
    "append clear copy count endswith extend find get index insert isalnum isalpha isdigit islower isspace isupper "
    "items join keys ljust lower lstrip partition pop remove replace reverse rfind rjust rpartition rsplit rstrip "
    "setdefault split splitlines startswith strip update upper values zfill bit_length".split()
)
BARRED = set(
    "register mro elements open input law version_info with_traceback add_note attrgetter breakpoint builtins compile "
    "copyright credits delattr dir eval exec exit gc globals help id importlib license locals methodcaller os quit "
    "setattr type vars sys hash map next round filter format object print iter frozenset bytes chr pow".split()
)
WORDS = ("typing", "enum", "Enum", "Flag", "Generic", "Protocol", "ABC", "namedtuple", "NamedTuple", "dataclass",
         "overload", "contextmanager")
DUNDERS = set("__init__ __eq__ __len__ __iter__ __contains__ __or__ __and__ __sub__ __call__".split())
PLAIN = (ast.Constant, ast.Tuple, ast.List, ast.Dict, ast.UnaryOp, ast.USub, ast.Load)
BANNED = (
    ast.With, ast.AsyncFunctionDef, ast.Await, ast.Global, ast.Nonlocal, ast.GeneratorExp, ast.YieldFrom,
    ast.AnnAssign, ast.Import, ast.Div, ast.Match, ast.NamedExpr, ast.Delete, ast.Assert,
)


def files():
    return sorted(ROOT.rglob("*.py"))


@functools.cache
def trees():
    return [(path.name, ast.parse(path.read_text())) for path in files()]


def nodes(kind):
    return [(name, node) for name, tree in trees() for node in ast.walk(tree) if isinstance(node, kind)]


def is_docstring(node, parents):
    return isinstance(parents.get(node), ast.Expr)


def parents_of(tree):
    return {child: node for node in ast.walk(tree) for child in ast.iter_child_nodes(node)}


class Files(unittest.TestCase):
    def test_l1_l14_only_python_files(self):
        found = [path for path in ROOT.rglob("*") if "__pycache__" not in path.parts]
        for path in found:
            self.assertRegex(path.name, "^(__init__|[a-z][a-z0-9_]*)[.]py$")
            self.assertNotIn(path.stem, [*BARRED, *dir(builtins), "test", "tests", "testing", "site", "conftest"])
        self.assertEqual(ast.unparse(ast.parse((ROOT / "__init__.py").read_text()).body[1:]), "")

    def test_l10_l14_size_and_signs(self):
        for path in files():
            text = path.read_text()
            self.assertTrue(all(sign == "\n" or " " <= sign <= "~" for sign in text), path)
            self.assertTrue(text.endswith("\n"))
            self.assertLessEqual(len(text.splitlines()), 399, path)
            self.assertLessEqual(max(len(row) for row in text.splitlines()), 120, path)
        for name, node in nodes(ast.FunctionDef):
            self.assertLessEqual(node.end_lineno - node.lineno + 1, 40, (name, node.name))


class Names(unittest.TestCase):
    def test_l2_l16_imports(self):
        wanted = {}
        for name, tree in trees():
            wanted[name] = []
            for node in ast.walk(tree):
                if not isinstance(node, ast.ImportFrom):
                    continue
                self.assertEqual((node.level, node.module.split(".")[0], node.module.count(".")), (0, "tagwebs", 1))
                self.assertIn(node, tree.body)
                source = dict(trees())[node.module.split(".")[1] + ".py"]
                defined = [n.name for n in source.body if isinstance(n, (ast.FunctionDef, ast.ClassDef))]
                defined += [n.targets[0].id for n in source.body if isinstance(n, ast.Assign)]
                for alias in node.names:
                    self.assertIn(alias.name, defined, name)
                    self.assertIsNone(alias.asname)
                    used = [n for n in ast.walk(tree) if isinstance(n, ast.Name) and n.id == alias.name]
                    self.assertTrue(used, (name, alias.name, "is not used"))
                wanted[name].append(node.module.split(".")[1] + ".py")
        while wanted:
            free = [name for name, others in wanted.items() if not any(other in wanted for other in others)]
            self.assertTrue(free, f"imports run in a circle: {sorted(wanted)}")
            wanted = {name: others for name, others in wanted.items() if name not in free}

    def test_l3_module_level(self):
        for name, tree in trees():
            bound = []
            for at, node in enumerate(tree.body):
                if isinstance(node, ast.Assign):
                    self.assertTrue(all(isinstance(part, PLAIN) for part in ast.walk(node.value)), name)
                    bound += [target.id for target in node.targets]
                elif isinstance(node, ast.ImportFrom):
                    bound += [alias.name for alias in node.names]
                elif isinstance(node, (ast.FunctionDef, ast.ClassDef)):
                    bound.append(node.name)
                else:
                    self.assertTrue(at == 0 and isinstance(node, ast.Expr) and isinstance(node.value, ast.Constant))
            self.assertEqual(len(bound), len(set(bound)), name)

    def test_l12_l15_l17_names_of_variables(self):
        for name, tree in trees():
            taken = {node.name for node in tree.body if isinstance(node, ast.ClassDef)}
            taken |= {a.name for node in tree.body if isinstance(node, ast.ImportFrom) for a in node.names}
            for node in ast.walk(tree):
                if isinstance(node, ast.arg):
                    mine = node.arg
                elif isinstance(node, ast.Name) and isinstance(node.ctx, ast.Store):
                    mine = node.id
                elif isinstance(node, (ast.FunctionDef, ast.ClassDef)):
                    mine = node.name
                    self.assertNotIn(mine, BARRED, name)
                    continue
                else:
                    continue
                self.assertNotIn(mine, BARRED | taken | set(dir(builtins)) | BUILTINS, (name, node.lineno))
                self.assertRegex(mine, "^(_|_?[A-Za-z][A-Za-z0-9_]*)$", name)

    def test_l8_builtins(self):
        for name, node in nodes(ast.Name):
            if node.id in dir(builtins):
                self.assertIn(node.id, BUILTINS, (name, node.lineno))

    def test_l25_methods(self):
        own = {node.name for _, node in nodes(ast.FunctionDef)}
        for name, node in nodes(ast.Call):
            if isinstance(node.func, ast.Attribute):
                self.assertIn(node.func.attr, METHODS | own, (name, node.lineno))
                if node.func.attr in METHODS:
                    self.assertEqual(node.keywords, [], (name, node.lineno))

    def test_l26_l17_attributes(self):
        for name, node in nodes(ast.Attribute):
            self.assertNotIn(node.attr, ["register", "mro", "elements", "open", "input", "law", "format", "sort"])
            if isinstance(node.ctx, ast.Store):
                self.assertNotIn(node.attr, CHANGING | {"items", "keys", "values", "args"}, (name, node.lineno))

    def test_l18_no_name_is_a_method_and_an_attribute(self):
        for name, node in nodes(ast.ClassDef):
            methods = [part.name for part in node.body if isinstance(part, ast.FunctionDef)]
            self.assertEqual(len(methods), len(set(methods)), name)
            stored = {
                part.attr for part in ast.walk(node) if isinstance(part, ast.Attribute) and isinstance(part.ctx, ast.Store)
            }
            self.assertFalse(stored & set(methods), (name, node.name))

    def test_l5_l18_names_of_properties_and_static_methods(self):
        marked, methods, stored = set(), set(), set()
        for _, node in nodes(ast.FunctionDef):
            (marked if node.decorator_list else methods).add(node.name)
        for _, node in nodes(ast.Attribute):
            if isinstance(node.ctx, ast.Store):
                stored.add(node.attr)
        self.assertFalse(marked & (methods | stored | METHODS))


class Parts(unittest.TestCase):
    def test_l4_l5_l6_l7_statements(self):
        for name, node in nodes(BANNED):
            self.fail(f"{name}:{node.lineno} {node}")
        for name, node in nodes(ast.Constant):
            self.assertNotIsInstance(node.value, (float, complex, bytes), name)

    def test_l4_l5_functions(self):
        for name, node in nodes(ast.FunctionDef):
            marks = [mark.id for mark in node.decorator_list]
            self.assertIn(marks, ([], ["property"], ["staticmethod"], ["classmethod"]))
            self.assertIsNone(node.returns)
            every = [*node.args.posonlyargs, *node.args.args, *node.args.kwonlyargs]
            self.assertFalse([arg for arg in every if arg.annotation], name)
            for value in [*node.args.defaults, *node.args.kw_defaults]:
                self.assertTrue(value is None or all(isinstance(part, PLAIN) for part in ast.walk(value)))
            if node.name.startswith("__"):
                self.assertIn(node.name, DUNDERS)
            self.assertEqual([n for n in ast.walk(node) if isinstance(n, ast.FunctionDef)], [node])

    def test_l19_raise(self):
        errors = [node.name for node in dict(trees())["errors.py"].body if isinstance(node, ast.ClassDef)]
        for name, node in nodes(ast.Raise):
            self.assertIsInstance(node.exc, ast.Call)
            self.assertIsInstance(node.exc.func, ast.Name)
            self.assertIn(node.exc.func.id, errors)
            self.assertEqual(node.exc.keywords, [])
            if node.cause is not None:
                self.assertIn((name, node.cause.id), [("commands.py", "why")])

    def test_l19_try(self):
        for name, node in nodes(ast.Try):
            self.assertEqual((len(node.handlers), node.orelse, node.finalbody), (1, [], []))
            handler = node.handlers[0]
            self.assertEqual((handler.type.id, handler.name, len(handler.body)), ("TagError", "why", 1))
            # Only calls of own functions stand in it.
            self.assertEqual([type(part.value) for part in node.body], [ast.Call], name)
            stored = [part.id for part in ast.walk(dict(trees())[name]) if isinstance(part, ast.Name) and part.id == "why"]
            self.assertEqual(len(stored), 2)

    def test_l20_is(self):
        for name, node in nodes(ast.Compare):
            for sign, other in zip(node.ops, node.comparators):
                if isinstance(sign, (ast.Is, ast.IsNot)):
                    self.assertIsInstance(other, ast.Constant, name)

    def test_l23_what_is_iterated_is_not_changed(self):
        for name, tree in trees():
            self.assertEqual(changed_in_loops(tree), [], name)

    def test_l23_views_are_iterated_at_once(self):
        for name, tree in trees():
            parents = parents_of(tree)
            for node in ast.walk(tree):
                if not isinstance(node, ast.Call):
                    continue
                lazy = isinstance(node.func, ast.Name) and node.func.id in ("zip", "enumerate", "range", "reversed")
                if lazy or (isinstance(node.func, ast.Attribute) and node.func.attr in ("items", "keys", "values")):
                    above = parents[node]
                    looped = isinstance(above, (ast.For, ast.comprehension)) and above.iter is node
                    called = isinstance(above, ast.Call) and isinstance(above.func, ast.Name)
                    self.assertTrue(looped or called, (name, node.lineno))

    def test_l23_generators(self):
        yielding = {}
        for name, node in nodes(ast.FunctionDef):
            if any(isinstance(part, ast.Yield) for part in ast.walk(node)):
                yielding[node.name] = name
                stated = [part for part in ast.walk(node) if isinstance(part, ast.Expr) and isinstance(part.value, ast.Yield)]
                self.assertEqual(len(stated), len([part for part in ast.walk(node) if isinstance(part, ast.Yield)]), name)
                self.assertEqual(node.decorator_list, [])
                self.assertFalse([part for part in ast.walk(node) if isinstance(part, ast.Return) and part.value])
                lazy = [part.id for part in ast.walk(node) if isinstance(part, ast.Name)]
                self.assertFalse([word for word in lazy if word in ("zip", "enumerate", "reversed", "next", "iter")], name)
        self.assertEqual(yielding, {"tracks": "unseen.py"})
        names = [node.name for _, node in nodes(ast.FunctionDef)]
        self.assertEqual([names.count(name) for name in yielding], [1])
        # Nothing in the package asks it, and StopIteration is not named beside it.
        words = [node.id for _, node in nodes(ast.Name)] + [node.attr for _, node in nodes(ast.Attribute)]
        self.assertFalse([word for word in words if word in [*yielding, "StopIteration"]])

    def test_l23_lazy_things_are_not_passed_on(self):
        taking = set("list tuple dict sorted sum any all enumerate zip min max".split())
        for name, tree in trees():
            parents = parents_of(tree)
            for node in ast.walk(tree):
                if not isinstance(node, ast.Call):
                    continue
                lazy = isinstance(node.func, ast.Name) and node.func.id in ("zip", "enumerate", "range", "reversed")
                if lazy or (isinstance(node.func, ast.Attribute) and node.func.attr in ("items", "keys", "values")):
                    above = parents[node]
                    if isinstance(above, ast.Call):
                        self.assertIn(above.func.id, taking, (name, node.lineno))
                        self.assertIs(above.args[0], node, (name, node.lineno))

    def test_l13_lambdas(self):
        lines = [(name, node.lineno) for name, node in nodes(ast.Lambda)]
        self.assertEqual(len(lines), len(set(lines)))

    def test_l27_exponents(self):
        for name, node in nodes(ast.BinOp):
            if isinstance(node.op, ast.Pow):
                self.assertIsInstance(node.right, ast.Constant, (name, node.lineno))

    def test_l24_sets(self):
        for name, tree in trees():
            parents = parents_of(tree)
            for node in ast.walk(tree):
                made = isinstance(node, ast.Call) and isinstance(node.func, ast.Name) and node.func.id == "set"
                if made or isinstance(node, (ast.SetComp, ast.Set)):
                    above = parents[node]
                    self.assertIsInstance(above, ast.Call, (name, node.lineno))
                    self.assertIn(above.func.id, ("sorted", "len"))

    def test_l27_strings(self):
        for name, tree in trees():
            parents = parents_of(tree)
            for node in ast.walk(tree):
                if isinstance(node, ast.Constant) and isinstance(node.value, str) and not is_docstring(node, parents):
                    self.assertNotIn("%", node.value, name)
                    self.assertFalse([word for word in (*WORDS, "type") if word in node.value], name)
                    self.assertFalse(node.value.startswith("__"), name)
                if isinstance(node, ast.Name):
                    self.assertFalse([word for word in WORDS if word == node.id], name)

    def test_l5_operators_and_l28(self):
        for name, node in nodes(ast.FunctionDef):
            if node.name in ("__len__", "__iter__", "__contains__"):
                body = [part for part in node.body if not isinstance(part, ast.Expr)]
                self.assertEqual([type(part) for part in body], [ast.Return], (name, node.name))
            if node.name == "__len__":
                self.assertTrue(ast.unparse(body[0]).startswith("return len("), name)
            if node.name == "__iter__":
                self.assertTrue(ast.unparse(body[0]).startswith("return iter(self."), name)
            if node.name == "__eq__":
                self.assertTrue(ast.unparse(node.body[-1]).startswith("return isinstance(other, "), name)


class ChangedInLoops(unittest.TestCase):
    """The check of L23 finds such rows, and only those."""

    def finds(self, text, rows):
        """Text is the rows of a function, which begin at row 2."""
        text = "def function(self, xs, ys, k):\n" + "".join(f"    {row}\n" for row in text.splitlines())
        self.assertEqual(changed_in_loops(ast.parse(text)), rows, text)

    def test_by_its_name(self):
        for head in ("xs", "enumerate(xs)", "zip(ys, xs)", "reversed(xs)", "xs.items()", "enumerate(xs.values())", "[*xs][0] or xs"):
            for change in ("xs.append(x)", "xs.pop()", "xs[k] = x", "xs[k] += 1", "xs += [x]", "del xs[k]", "xs.setdefault(x, k)"):
                self.finds(f"for x in {head}:\n    if x:\n        {change}", [4])
        self.finds("for x in xs:\n    for y in ys:\n        xs.append(y)", [4])
        self.finds("for y in ys:\n    for x in xs:\n        xs.append(y)\n    ys.append(x)", [4, 5])
        self.finds("return [xs.pop() for y in ys for x in xs]", [2])
        self.finds("return {x: xs.pop() for x in xs}", [2])

    def test_by_another_name(self):
        self.finds("while xs:\n    ys = []\n    for x in xs:\n        ys.append(x)\n    xs = ys", [5])
        self.finds("while xs:\n    ys = {}\n    for x, y in xs.items():\n        ys[x] = y\n    xs = ys", [5])
        self.finds("ys = xs\nfor x in xs:\n    ys.append(x)", [4])
        self.finds("a = xs\nb = a\nfor x in b:\n    xs.append(x)", [5])
        self.finds("a = b = xs\nfor x in b:\n    a.append(x)", [4])
        self.finds("a, b = ys, xs\nfor x in b:\n    xs.append(x)\n    ys.append(x)", [4])
        self.finds("(a, *b), c = (ys, k), xs\nfor x in c:\n    xs.append(x)\n    ys.append(x)", [4])
        self.finds("if a := xs:\n    for x in a:\n        xs.append(x)", [4])

    def test_by_a_field(self):
        self.finds("for x in self.rows:\n    self.rows.append(x)", [3])
        self.finds("rows = self.rows\nfor x in rows:\n    self.rows.append(x)", [4])
        self.finds("for x in self.rows:\n    xs.append(x)\nself.rows = xs", [3])
        self.finds("for x in self:\n    self.rows.append(x)", [3])
        self.finds("for x in ys[k]:\n    ys[k].append(x)", [3])
        self.finds("rows = ys[k]\nfor x in rows:\n    ys[k].append(x)", [4])

    def test_by_a_choice(self):
        self.finds("for x in xs if k else ys:\n    ys.append(x)", [3])
        self.finds("for x in xs or ys:\n    xs.append(x)", [3])
        self.finds("a = xs if k else ys\nfor x in a:\n    ys.append(x)", [4])
        self.finds("a = k and xs\nfor x in xs:\n    a.append(x)", [4])
        self.finds("for x in xs:\n    (ys if k else xs).append(x)", [3])

    def test_what_is_allowed(self):
        for text in (
            "for x in xs:\n    ys.append(x)",
            "for x in list(xs):\n    xs.append(x)",
            "for x in sorted(xs.items()):\n    del xs[x[0]]",
            "for x in xs[1:]:\n    xs.append(x)",
            "ys = xs[:]\nfor x in ys:\n    xs.append(x)",
            "ys = list(xs)\nfor x in ys:\n    xs.append(x)",
            "for x in xs:\n    x.append(k)\nxs.append(k)",
            "for k in range(len(xs)):\n    xs[k] = 0",
            "while k < len(xs):\n    for x in ys:\n        xs.append(x)\n    k += 1",
            "while xs:\n    x = xs.pop()\n    for y in ys[x]:\n        xs.append(y)",
            "for x in self.rows:\n    self.other.append(x)",
            "for x in xs:\n    ys[x] = k",
            "xs.append(k)\nreturn [x for x in xs]",
        ):
            self.finds(text, [])


if __name__ == "__main__":
    unittest.main()
