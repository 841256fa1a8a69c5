"""The rules on the language that a look at the syntax can tell, narrower than they are where that is simpler."""

import ast
import builtins
import pathlib
import re
import unittest
import warnings

PACKAGE = pathlib.Path(__file__).parent.parent / "unithouse"

LIBRARY = {"math": {"gcd", "lcm", "isqrt", "comb", "perm", "factorial"}}

BUILTINS = set("""len range enumerate zip min max sum abs sorted reversed int str bool list tuple dict set isinstance ord
    repr any all divmod iter property ValueError TypeError KeyError IndexError LookupError NotImplemented""".split())

METHODS = set("""append clear copy count endswith extend find get index insert isalnum isalpha isdigit items join keys
    lower pop remove replace reverse setdefault split startswith strip update upper values isupper isascii""".split())

DUNDERS = set("__init__ __eq__ __repr__ __str__ __len__ __iter__ __contains__ __add__ __mul__ __pow__".split())

STATEMENTS = (ast.FunctionDef, ast.ClassDef, ast.Return, ast.Assign, ast.AugAssign, ast.For, ast.While, ast.If,
              ast.Raise, ast.Try, ast.Assert, ast.Expr, ast.Pass, ast.Break, ast.Continue, ast.ImportFrom, ast.Delete)

EXPRESSIONS = (ast.BoolOp, ast.BinOp, ast.UnaryOp, ast.IfExp, ast.Dict, ast.ListComp, ast.DictComp, ast.Compare,
               ast.Call, ast.JoinedStr, ast.FormattedValue, ast.Constant, ast.Attribute, ast.Subscript, ast.Name,
               ast.List, ast.Tuple, ast.Slice, ast.Lambda, ast.Starred)

BARRED = set("""register mro elements open input law version_info with_traceback add_note type typing enum Enum Flag
    Generic Protocol ABC namedtuple dataclass overload contextmanager""".split())

FILES = sorted(PACKAGE.rglob("*.py"))


def trees():
    return [(path, ast.parse(path.read_text(encoding="utf-8"))) for path in FILES]


def nodes(kind):
    return [(path, node) for path, tree in trees() for node in ast.walk(tree) if isinstance(node, kind)]


def functions():
    return nodes((ast.FunctionDef, ast.Lambda))


def parameters(function):
    told = function.args
    return [arg.arg for arg in told.posonlyargs + told.args + told.kwonlyargs]


def top_names(tree):
    """Return the list of the names that a file binds, imports included."""
    found = []
    for node in tree.body:
        if isinstance(node, (ast.FunctionDef, ast.ClassDef)):
            found.append(node.name)
        elif isinstance(node, ast.ImportFrom):
            found.extend(alias.name for alias in node.names)
        elif isinstance(node, ast.Assign):
            found.append(node.targets[0].id)
    return found


class FilesTest(unittest.TestCase):
    def test_files(self):
        for path in PACKAGE.rglob("*"):
            if "__pycache__" not in path.parts:
                self.assertTrue(path.is_dir() or re.fullmatch(r"[a-z0-9_]+\.py", path.name), path)
        self.assertTrue((PACKAGE / "__init__.py").exists())

    def test_sizes_and_characters(self):
        for path in FILES:
            text = path.read_text(encoding="utf-8")
            lines = text.split("\n")
            self.assertLessEqual(len(lines), 399, path)
            self.assertLessEqual(max(len(line) for line in lines), 120, path)
            self.assertTrue(all(char == "\n" or " " <= char <= "~" for char in text), path)
            self.assertNotIn("_wall", text.lower())

    def test_functions_are_short(self):
        for path, node in nodes(ast.FunctionDef):
            self.assertLessEqual(node.end_lineno - node.lineno + 1, 40, (path, node.name))

    def test_python_gives_no_warning(self):
        for path in FILES:
            with warnings.catch_warnings():
                warnings.simplefilter("error")
                compile(path.read_text(encoding="utf-8"), str(path), "exec")


class ImportsTest(unittest.TestCase):
    def test_imports_name_the_very_file(self):
        for path, node in nodes((ast.Import, ast.ImportFrom)):
            self.assertIsInstance(node, ast.ImportFrom, path)
            self.assertEqual(node.level, 0)
            for alias in node.names:
                self.assertIsNone(alias.asname, (path, alias.name))
                if node.module in LIBRARY:
                    self.assertIn(alias.name, LIBRARY[node.module], path)
                    continue
                words = node.module.split(".")
                self.assertEqual((words[0], len(words)), ("unithouse", 2), path)
                tree = ast.parse((PACKAGE / f"{words[1]}.py").read_text(encoding="utf-8"))
                own = [one.name for one in tree.body if isinstance(one, (ast.FunctionDef, ast.ClassDef))]
                own += [one.targets[0].id for one in tree.body if isinstance(one, ast.Assign)]
                self.assertIn(alias.name, own, (path, node.module))

    def test_each_import_is_used(self):
        for path, tree in trees():
            used = {node.id for node in ast.walk(tree) if isinstance(node, ast.Name)}
            for node in tree.body:
                if isinstance(node, ast.ImportFrom):
                    for alias in node.names:
                        self.assertIn(alias.name, used, path)

    def test_no_two_files_import_from_each_other(self):
        reached = {path.stem: {node.module.split(".")[-1] for node in tree.body if isinstance(node, ast.ImportFrom)}
                   for path, tree in trees()}
        for _ in reached:
            for stem, others in reached.items():
                reached[stem] = others.union(*[reached.get(other, set()) for other in others])
        for stem, others in reached.items():
            self.assertNotIn(stem, others)


class SyntaxTest(unittest.TestCase):
    def test_statements_and_expressions(self):
        for path, node in nodes((ast.stmt, ast.expr)):
            kinds = STATEMENTS if isinstance(node, ast.stmt) else EXPRESSIONS
            self.assertIsInstance(node, kinds, (path, node.lineno))

    def test_module_level(self):
        for path, tree in trees():
            self.assertIsNotNone(ast.get_docstring(tree), path)
            for node in tree.body[1:]:
                self.assertIsInstance(node, (ast.ImportFrom, ast.FunctionDef, ast.ClassDef, ast.Assign), path)
                if isinstance(node, ast.Assign):
                    self.assertEqual([type(target) for target in node.targets], [ast.Name])
                    self.assertFalse([one for one in ast.walk(node) if isinstance(one, (ast.Call, ast.ListComp))])
            names = top_names(tree)
            self.assertEqual(len(names), len(set(names)), path)

    def test_functions_and_classes(self):
        for path, node in nodes((ast.FunctionDef, ast.ClassDef)):
            self.assertIsNotNone(ast.get_docstring(node) or node.name.startswith("__"), (path, node.name))
            decorators = [one.id for one in node.decorator_list]
            self.assertIn(decorators, ([], ["property"]), path)
            if node.name.startswith("__"):
                self.assertIn(node.name, DUNDERS, path)
            for inner in node.body:
                if isinstance(node, ast.ClassDef) and not isinstance(inner, ast.FunctionDef):
                    self.assertIsInstance(inner.value, ast.Constant, path)

    def test_values(self):
        for path, node in nodes((ast.Constant, ast.BinOp, ast.Compare)):
            at = (path, node.lineno)
            if isinstance(node, ast.Constant):
                self.assertNotIsInstance(node.value, (float, complex, bytes), at)
            elif isinstance(node, ast.BinOp):
                self.assertNotIsInstance(node.op, (ast.Div, ast.MatMult), at)
                if isinstance(node.op, ast.Pow):
                    self.assertIsInstance(node.right, ast.Constant, at)
            else:
                for sign, side in zip(node.ops, node.comparators):
                    if isinstance(sign, (ast.Is, ast.IsNot)):
                        self.assertIsInstance(side, ast.Constant, at)

    def test_errors_are_own_and_made_on_the_spot(self):
        for path, node in nodes((ast.Raise, ast.ExceptHandler)):
            at = (path, node.lineno)
            if isinstance(node, ast.Raise):
                self.assertIsInstance(node.exc, ast.Call, at)
            else:
                caught = node.type.elts if isinstance(node.type, ast.Tuple) else [node.type]
                self.assertFalse({one.id for one in caught} & set(dir(builtins)), at)

    def test_any_and_all_take_lists(self):
        # A class of the package has __eq__.
        for path, node in nodes(ast.GeneratorExp):
            self.fail((path, node.lineno))


CHANGING = set("append clear extend insert pop remove reverse setdefault update sort add discard".split())


def root_name(node):
    """Return the name off which a value is read by items, attributes and views of it, None if there is none."""
    while isinstance(node, (ast.Subscript, ast.Attribute, ast.Call)):
        if isinstance(node, ast.Call) and not isinstance(node.func, ast.Attribute):
            return None
        node = node.func if isinstance(node, ast.Call) else node.value
    return node.id if isinstance(node, ast.Name) else None


def names_walked(node):
    """Return the set of the names off which is read what a loop or a comprehension walks."""
    if isinstance(node, ast.Call) and isinstance(node.func, ast.Name):
        if node.func.id not in ("enumerate", "zip", "reversed", "iter"):
            return set()
        return {name for part in node.args for name in names_walked(part)}
    if isinstance(node, (ast.IfExp, ast.BoolOp)):
        parts = [node.body, node.orelse] if isinstance(node, ast.IfExp) else node.values
        return {name for part in parts for name in names_walked(part)}
    return {root_name(node)} - {None}


def names_changed(rows):
    """Return the set of the names off which something is changed in some rows; a name assigned anew is none."""
    found = set()
    for row in rows:
        for node in ast.walk(row):
            if isinstance(node, (ast.Subscript, ast.Attribute)) and isinstance(node.ctx, (ast.Store, ast.Del)):
                found.add(root_name(node))
            elif isinstance(node, ast.AugAssign):
                found.add(root_name(node.target))
            elif isinstance(node, ast.Call) and isinstance(node.func, ast.Attribute) and node.func.attr in CHANGING:
                found.add(root_name(node.func.value))
    return found - {None}


def with_other_names(function, names):
    """Return names and the others that may hold the same list in the function, by plain assignments of names."""
    found = set(names)
    for _ in ast.walk(function):
        size = len(found)
        for node in ast.walk(function):
            if isinstance(node, ast.Assign) and isinstance(node.value, ast.Name):
                both = {node.value.id} | {root_name(target) for target in node.targets}
                if both & found:
                    found |= both - {None}
        if len(found) == size:
            break
    return found


class WalkedTest(unittest.TestCase):
    def test_what_a_loop_walks_is_not_changed_in_it_under_any_name(self):
        for path, function in nodes(ast.FunctionDef):
            for node in ast.walk(function):
                if isinstance(node, ast.For):
                    walked, rows = names_walked(node.iter), node.body
                elif isinstance(node, (ast.ListComp, ast.DictComp)):
                    walked = {name for part in node.generators for name in names_walked(part.iter)}
                    rows = [node]
                else:
                    continue
                changed = with_other_names(function, walked) & names_changed(rows)
                self.assertFalse(changed, (path, function.name, node.lineno))


class NamesTest(unittest.TestCase):
    def bound(self):
        """Return the list of (path, name) of all parameters, variables, functions and classes."""
        found = [(path, name) for path, node in functions() for name in parameters(node)]
        found += [(path, node.name) for path, node in nodes((ast.FunctionDef, ast.ClassDef))]
        found += [(path, node.id) for path, node in nodes(ast.Name) if isinstance(node.ctx, ast.Store)]
        found += [(path, node.name) for path, node in nodes(ast.ExceptHandler) if node.name is not None]
        return found

    def test_plain_names(self):
        for path, name in self.bound():
            if name not in DUNDERS:
                self.assertRegex(name, r"\A(_|_?[A-Za-z][A-Za-z0-9_]*)\Z", path)
            self.assertNotIn(name, BARRED, path)

    def test_no_name_is_a_builtin(self):
        for path, name in self.bound():
            self.assertNotIn(name, dir(builtins), path)

    def test_no_variable_has_the_name_of_an_import_or_a_class(self):
        for path, tree in trees():
            taken = {alias.name for node in tree.body if isinstance(node, ast.ImportFrom) for alias in node.names}
            taken |= {node.name for node in tree.body if isinstance(node, ast.ClassDef)}
            variables = {node.id for node in ast.walk(tree) if isinstance(node, ast.Name)
                         and isinstance(node.ctx, ast.Store)}
            for node in ast.walk(tree):
                if isinstance(node, (ast.FunctionDef, ast.Lambda)):
                    variables |= set(parameters(node))
            self.assertFalse(variables & taken, path)

    def test_builtins_are_those_that_are_let(self):
        bound = self.bound()
        for path, tree in trees():
            own = {name for other, name in bound if other == path} | set(top_names(tree))
            for node in ast.walk(tree):
                if isinstance(node, ast.Name) and node.id not in own:
                    self.assertIn(node.id, BUILTINS, (path, node.lineno))

    def test_methods_are_those_that_are_let(self):
        own = {method.name for _, node in nodes(ast.ClassDef) for method in node.body
               if isinstance(method, ast.FunctionDef)}
        for path, node in nodes(ast.Call):
            if isinstance(node.func, ast.Attribute):
                self.assertIn(node.func.attr, METHODS | own, (path, node.lineno))

    def test_attributes_are_assigned_by_a_class(self):
        assigned = {node.attr for _, node in nodes(ast.Attribute) if isinstance(node.ctx, ast.Store)}
        for path, tree in trees():
            called = {id(node.func) for node in ast.walk(tree) if isinstance(node, ast.Call)}
            for node in ast.walk(tree):
                if isinstance(node, ast.Attribute) and id(node) not in called:
                    self.assertIn(node.attr, assigned, (path, node.lineno))

    def test_strings_have_no_character_that_is_barred(self):
        for path, tree in trees():
            docs = {id(node.body[0].value) for node in ast.walk(tree)
                    if isinstance(node, (ast.Module, ast.FunctionDef, ast.ClassDef)) and ast.get_docstring(node)}
            for node in ast.walk(tree):
                if isinstance(node, ast.Constant) and isinstance(node.value, str) and id(node) not in docs:
                    self.assertNotIn("%", node.value, (path, node.lineno))
                    self.assertNotIn("__", node.value, (path, node.lineno))
                    self.assertFalse(set(re.findall(r"\w+", node.value)) & BARRED, (path, node.lineno))
