"""The files of the package keep to the small part of Python in which they are written."""

import ast
import builtins
import pathlib
import unittest

ROOT = pathlib.Path(__file__).resolve().parent.parent
PACKAGE = ROOT / "stillread"
BUILTINS = set(
    "len range enumerate zip min max sum abs sorted reversed int str bool list tuple dict set isinstance ord repr "
    "any all divmod pow property classmethod ValueError KeyError IndexError OverflowError ArithmeticError".split())
METHODS = set(
    "append clear copy count endswith extend find get index insert isalnum isalpha isdigit islower isspace isupper "
    "items join keys ljust lower lstrip partition pop remove replace reverse rfind rjust setdefault split splitlines "
    "startswith strip update upper values zfill bit_length isascii isprintable __init__".split())
DOUBLE = ("__init__", "__eq__", "__len__", "__str__", "__contains__")
BARRED = set(
    "register mro elements open input law version_info eval exec id type vars globals locals compile help dir exit "
    "quit hash map filter next iter format chr print bytes bytearray getattr setattr hasattr super object".split())
NODES = (
    ast.Module, ast.FunctionDef, ast.ClassDef, ast.arguments, ast.arg, ast.Expr, ast.Assign, ast.AugAssign,
    ast.Return, ast.If, ast.While, ast.For, ast.Raise, ast.Break, ast.Continue, ast.Delete, ast.Constant,
    ast.Name, ast.Load, ast.Store, ast.Del, ast.Attribute, ast.Subscript, ast.Slice, ast.Call, ast.keyword,
    ast.List, ast.Tuple, ast.Dict, ast.ListComp, ast.DictComp, ast.SetComp, ast.comprehension, ast.IfExp,
    ast.BoolOp, ast.And, ast.Or, ast.UnaryOp, ast.Not, ast.USub, ast.BinOp, ast.Add, ast.Sub, ast.Mult,
    ast.FloorDiv, ast.Mod, ast.Pow, ast.Compare, ast.cmpop, ast.JoinedStr, ast.FormattedValue, ast.ImportFrom,
    ast.alias, ast.Lambda, ast.Try, ast.ExceptHandler,
)
CHANGING = set("append clear extend insert pop remove reverse setdefault update".split())


def sources():
    return {path: path.read_text(encoding="ascii") for path in sorted(PACKAGE.rglob("*.py"))}


def module_name(path):
    parts = path.relative_to(ROOT).with_suffix("").parts
    return ".".join(part for part in parts if part != "__init__")


def trees():
    return {path: ast.parse(text) for path, text in sources().items()}


def imports_of(tree):
    return [node for node in tree.body if isinstance(node, ast.ImportFrom)]


def bound(tree):
    """All names that a module binds at its level, with repeats."""
    names = []
    for node in tree.body:
        if isinstance(node, (ast.FunctionDef, ast.ClassDef)):
            names.append(node.name)
        if isinstance(node, ast.Assign):
            names.extend(target.id for target in node.targets)
        if isinstance(node, ast.ImportFrom):
            names.extend(alias.name for alias in node.names)
    return names


def own_methods():
    """The names of all methods and properties of the package."""
    return {node.name for tree in trees().values() for one in tree.body if isinstance(one, ast.ClassDef)
            for node in one.body if isinstance(node, ast.FunctionDef)}


def local_names(function):
    names = [argument.arg for argument in function.args.args + function.args.kwonlyargs]
    return names + [node.id for node in ast.walk(function) if isinstance(node, ast.Name) and isinstance(
        node.ctx, ast.Store)]


class FilesTest(unittest.TestCase):
    def test_only_plain_files(self):
        for path in PACKAGE.rglob("*"):
            if "__pycache__" not in path.parts:
                self.assertTrue(path.is_dir() or path.suffix == ".py", path)
                self.assertTrue(not path.is_dir() or (path / "__init__.py").exists(), path)
                self.assertEqual(path.name, path.name.lower())

    def test_sizes_and_signs(self):
        for path, text in sources().items():
            rows = text.splitlines()
            self.assertLessEqual(len(rows), 399, path)
            self.assertTrue(all(len(row) <= 120 and row.isprintable() for row in rows), path)
            for node in ast.walk(ast.parse(text)):
                if isinstance(node, ast.FunctionDef):
                    self.assertLessEqual(node.end_lineno - node.lineno + 1, 40, (path, node.name))
                    self.assertTrue(ast.get_docstring(node) or node.name in DOUBLE, (path, node.name))


class WordsTest(unittest.TestCase):
    def test_only_plain_statements(self):
        for path, tree in trees().items():
            for node in ast.walk(tree):
                self.assertIsInstance(node, NODES, (path, ast.dump(node)[:80]))
                if isinstance(node, ast.FunctionDef):
                    decorators = [ast.unparse(one) for one in node.decorator_list]
                    self.assertIn(decorators, ([], ["property"], ["classmethod"]), path)
                    self.assertTrue(not node.name.startswith("__") or node.name in DOUBLE, path)
                if isinstance(node, ast.Constant):
                    self.assertNotIsInstance(node.value, (float, complex, bytes))
                    self.assertFalse(isinstance(node.value, str) and "%" in node.value, path)

    def test_module_level(self):
        kinds = (ast.FunctionDef, ast.ClassDef, ast.ImportFrom, ast.Assign)
        for path, tree in trees().items():
            self.assertTrue(ast.get_docstring(tree), path)
            for node in tree.body[1:]:
                self.assertIsInstance(node, kinds, path)
                for inner in ast.walk(node) if isinstance(node, ast.Assign) else ():
                    self.assertNotIsInstance(inner, (ast.Call, ast.ListComp, ast.DictComp), path)
            names = bound(tree)
            self.assertEqual(len(names), len(set(names)), path)

    def test_imports_name_the_very_file_and_lead_round_nowhere(self):
        named = {module_name(path): tree for path, tree in trees().items()}
        leads = {}
        for module, tree in named.items():
            leads[module] = [node.module for node in imports_of(tree)]
            for node in imports_of(tree):
                self.assertEqual(node.level, 0)
                body = named[node.module].body
                own = [one.name for one in body if isinstance(one, (ast.FunctionDef, ast.ClassDef))]
                own += [one.targets[0].id for one in body if isinstance(one, ast.Assign)]
                for alias in node.names:
                    self.assertIsNone(alias.asname)
                    self.assertIn(alias.name, own, module)
        while leads:
            ends = [module for module, others in leads.items() if not any(other in leads for other in others)]
            self.assertTrue(ends, leads)
            leads = {module: others for module, others in leads.items() if module not in ends}

    def test_imports_are_used(self):
        for path, tree in trees().items():
            used = {node.id for node in ast.walk(tree) if isinstance(node, ast.Name)}
            for node in imports_of(tree):
                for alias in node.names:
                    self.assertIn(alias.name, used, path)

    def test_classes(self):
        for path, tree in trees().items():
            for one in [node for node in ast.walk(tree) if isinstance(node, ast.ClassDef)]:
                self.assertIn(one, tree.body)
                methods = [node.name for node in one.body if isinstance(node, ast.FunctionDef)]
                kept = {node.attr for node in ast.walk(one) if isinstance(node, ast.Attribute) and isinstance(
                    node.ctx, ast.Store)}
                self.assertEqual(len(methods), len(set(methods)), path)
                self.assertFalse(set(methods) & kept, path)
                changing = [node for node in one.body if isinstance(node, ast.FunctionDef) and (
                    node.decorator_list or node.name in DOUBLE[1:])]
                for node in [inner for method in changing for inner in ast.walk(method)]:
                    stored = isinstance(node, (ast.Attribute, ast.Subscript)) and isinstance(node.ctx, ast.Store)
                    self.assertFalse(stored, (path, one.name))

    def test_names(self):
        known = METHODS | own_methods()
        for path, tree in trees().items():
            imported = [alias.name for node in imports_of(tree) for alias in node.names]
            classes = [node.name for node in tree.body if isinstance(node, ast.ClassDef)]
            barred = BARRED | set(dir(builtins)) | set(imported)
            for node in ast.walk(tree):
                if isinstance(node, ast.Name) and hasattr(builtins, node.id):
                    self.assertIn(node.id, BUILTINS, path)
                if isinstance(node, ast.FunctionDef):
                    self.assertFalse(set(local_names(node)) & (barred | set(classes)), (path, node.name))
                    self.assertFalse(node.name in barred, (path, node.name))
                if isinstance(node, ast.Call) and isinstance(node.func, ast.Attribute):
                    self.assertIn(node.func.attr, known, path)

    def test_tables_at_module_level_are_only_read(self):
        for path, tree in trees().items():
            tables = {node.targets[0].id for node in tree.body if isinstance(node, ast.Assign) and isinstance(
                node.value, (ast.Dict, ast.List))}
            for parent in ast.walk(tree):
                for node in [child for child in ast.iter_child_nodes(parent) if isinstance(child, ast.Name)]:
                    if node.id in tables and isinstance(node.ctx, ast.Load):
                        self.assertIsInstance(parent, (ast.Subscript, ast.Compare, ast.Attribute), (path, node.id))
                        self.assertFalse(getattr(parent, "attr", "get") in CHANGING, (path, node.id))

    def test_loops_do_not_change_what_they_go_over(self):
        for path, tree in trees().items():
            for loop in [node for node in ast.walk(tree) if isinstance(node, ast.For)]:
                over = {ast.unparse(node) for node in ast.walk(loop.iter) if isinstance(node, (ast.Name, ast.Attribute))}
                for node in [inner for row in loop.body for inner in ast.walk(row)]:
                    if isinstance(node, ast.Call) and isinstance(node.func, ast.Attribute) and node.func.attr in CHANGING:
                        self.assertNotIn(ast.unparse(node.func.value), over, (path, loop.lineno))
                    if isinstance(node, ast.Subscript) and isinstance(node.ctx, (ast.Store, ast.Del)):
                        self.assertNotIn(ast.unparse(node.value), over, (path, loop.lineno))

    def test_handlers_name_own_errors_once(self):
        own = {node.name for node in ast.walk(trees()[PACKAGE / "errors.py"]) if isinstance(node, ast.ClassDef)}
        for path, tree in trees().items():
            for function in [node for node in ast.walk(tree) if isinstance(node, ast.FunctionDef)]:
                handlers = [node for node in ast.walk(function) if isinstance(node, ast.ExceptHandler)]
                names = [one.name for one in handlers if one.name] + local_names(function)
                self.assertEqual(len([name for name in names if names.count(name) > 1 and handlers]), 0, path)
                for one in handlers:
                    words = {node.id for node in ast.walk(one.type) if isinstance(node, ast.Name)}
                    self.assertTrue(words and words <= own, path)

    def test_sets_are_not_kept_or_iterated(self):
        kinds = (ast.Set, ast.SetComp)
        for path, tree in trees().items():
            for parent in ast.walk(tree):
                for node in ast.iter_child_nodes(parent):
                    made = isinstance(node, ast.Call) and isinstance(node.func, ast.Name) and node.func.id == "set"
                    if made or isinstance(node, kinds):
                        judged = isinstance(parent, (ast.Compare, ast.Assign)) or (
                            isinstance(parent, ast.Call) and ast.unparse(parent.func) in ("sorted", "len"))
                        self.assertTrue(judged, (path, ast.unparse(parent)))


if __name__ == "__main__":
    unittest.main()
