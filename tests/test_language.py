"""The plainest ones of the rules of the language, for all files of the package."""

import ast
import builtins
import pathlib
import unittest

from tests.loops import loops_that_change_what_they_walk
from thingwise import errors

PACKAGE = pathlib.Path(__file__).resolve().parent.parent / "thingwise"
BARRED = (ast.GeneratorExp, ast.AsyncFunctionDef, ast.Global, ast.Div, ast.Set)

BARRED_NAMES = ("register", "mro", "elements", "open", "input", "law", "version_info", "with_traceback", "add_note", "dir",
                "exit", "id", "super", "vars", "os", "sys", "help", "eval", "exec", "compile", "quit", "license")
BARRED_BEGINNINGS = ("^(__(?!init__|eq__|len__|iter__|add__|contains__)|_wall|_pe_|_dcw_|_enum_|_cm_|_twin_re_|_lay_|_law_|"
                     "_stub_|_sre|(_cold|_tuplegetter|_outside|_record|_written_out|_member_names)[0-9_]*$)")


def named(node):
    """The names that a node gives to something."""
    if isinstance(node, ast.Name) and isinstance(node.ctx, ast.Store):
        return [node.id]
    if isinstance(node, (ast.FunctionDef, ast.ClassDef)):
        return [node.name]
    if isinstance(node, ast.Attribute):
        return [node.attr]
    return [node.arg] if isinstance(node, ast.arg) else []


class LanguageTest(unittest.TestCase):

    def setUp(self):
        self.texts = {path.name: path.read_text(encoding="utf-8") for path in sorted(PACKAGE.glob("*.py"))}

    def test_folder(self):
        names = [path.name for path in PACKAGE.iterdir() if path.name != "__pycache__"]
        self.assertEqual(sorted(names), sorted(self.texts))
        self.assertIn("__init__.py", names)

    def test_lines_and_signs(self):
        for name, text in self.texts.items():
            lines = text.split("\n")
            self.assertLessEqual(len(lines), 399, name)
            for line in lines:
                self.assertLessEqual(len(line), 120, (name, line))
                self.assertTrue(all(" " <= sign <= "~" for sign in line), (name, line))

    def test_functions_are_small(self):
        for name, text in self.texts.items():
            for node in ast.walk(ast.parse(text)):
                if isinstance(node, ast.FunctionDef):
                    self.assertLessEqual(node.end_lineno - node.lineno + 1, 40, (name, node.name))
                    for decorator in node.decorator_list:
                        self.assertEqual(ast.unparse(decorator), "property", (name, node.name))

    def test_imports(self):
        for name, text in self.texts.items():
            for node in ast.walk(ast.parse(text)):
                self.assertNotIsInstance(node, ast.Import, name)
                if isinstance(node, ast.ImportFrom):
                    self.assertEqual(node.level, 0, name)
                    self.assertTrue(node.module.startswith("thingwise."), (name, node.module))

    def test_barred_statements_and_strings(self):
        for name, text in self.texts.items():
            for node in ast.walk(ast.parse(text)):
                self.assertNotIsInstance(node, BARRED, (name, getattr(node, "lineno", 0)))
                if isinstance(node, ast.Constant):
                    self.assertNotIsInstance(node.value, (float, complex), name)
                    self.assertFalse(isinstance(node.value, str) and "%" in node.value, name)

    def test_nothing_but_own_errors_is_caught(self):
        for name, text in self.texts.items():
            for node in ast.walk(ast.parse(text)):
                if isinstance(node, ast.Try):
                    self.assertEqual(node.finalbody, [], name)
                if isinstance(node, ast.ExceptHandler):
                    self.assertIsInstance(node.type, ast.Name, (name, node.lineno))
                    self.assertEqual(getattr(errors, node.type.id).__module__, "thingwise.errors")

    def test_names_have_one_meaning(self):
        for name, text in self.texts.items():
            tree = ast.parse(text)
            taken = set(dir(builtins))
            for node in tree.body:
                if isinstance(node, ast.ImportFrom):
                    taken.update(alias.name for alias in node.names)
                if isinstance(node, (ast.ClassDef, ast.FunctionDef)):
                    taken.add(node.name)
            for node in ast.walk(tree):
                if isinstance(node, ast.arg):
                    self.assertNotIn(node.arg, taken, name)
                if isinstance(node, ast.Name) and isinstance(node.ctx, ast.Store):
                    self.assertNotIn(node.id, taken, name)

    def test_barred_names(self):
        for name, text in self.texts.items():
            for node in ast.walk(ast.parse(text)):
                for word in named(node):
                    self.assertNotIn(word, BARRED_NAMES, name)
                    self.assertNotRegex(word, BARRED_BEGINNINGS, name)
                if isinstance(node, ast.Pow):
                    self.fail((name, "an exponent"))

    def test_library_is_not_used(self):
        """Beside the package's own functions only these are called by a bare name."""
        plain = {"len", "range", "enumerate", "zip", "min", "max", "sum", "sorted", "reversed", "list", "tuple", "set",
                 "isinstance", "any", "all", "iter", "type", "str", "int", "super"}
        for name, text in self.texts.items():
            tree = ast.parse(text)
            own = {node.name for node in tree.body if isinstance(node, (ast.ClassDef, ast.FunctionDef))}
            # A function out of a table is given this name ahead of its call.
            own.add("action")
            for node in tree.body:
                if isinstance(node, ast.ImportFrom):
                    own.update(alias.name for alias in node.names)
            for node in ast.walk(tree):
                if isinstance(node, ast.Call) and isinstance(node.func, ast.Name):
                    self.assertIn(node.func.id, own | plain, name)

    def test_loops_do_not_change_what_they_walk(self):
        for name, text in self.texts.items():
            self.assertEqual(loops_that_change_what_they_walk(ast.parse(text)), [], name)

    def test_files_do_not_import_in_a_ring(self):
        imports = {}
        for name, text in self.texts.items():
            imports["thingwise." + name[:-3]] = [
                node.module for node in ast.walk(ast.parse(text)) if isinstance(node, ast.ImportFrom)]
        left = dict(imports)
        while left:
            free = [name for name, needed in left.items() if not any(other in left for other in needed)]
            self.assertTrue(free, sorted(left))
            for name in free:
                del left[name]


class LoopsTest(unittest.TestCase):
    """What the test of the loops above finds, and what it lets pass."""

    def rows_of(self, *lines):
        text = "def walk(xs, ys, box, d):\n" + "\n".join("    " + line for line in lines)
        return loops_that_change_what_they_walk(ast.parse(text))

    def test_another_name_of_the_list(self):
        lines = ["layer = list(xs)", "while len(layer) > 0:", "    found = []", "    for x in layer:",
                 "        found.append(x)", "    layer = found"]
        self.assertEqual(self.rows_of(*lines), [6])
        self.assertEqual(self.rows_of(*lines[:3], "    for x in list(layer):", *lines[4:]), [])
        self.assertEqual(self.rows_of(*lines[:5], "    layer = list(found)"), [])

    def test_what_is_found(self):
        for change in ("xs.append(x)", "xs[0] = x", "del xs[0]", "xs += [x]", "xs[0] += 1", "xs[0].append(x)", "xs.pop()",
                       "if x:\n            xs.clear()", "ys = xs\n        ys.pop()", "ys, n = xs, 1\n        ys.pop()"):
            for walked in ("xs", "enumerate(xs)", "zip(ys, xs)", "reversed(xs)", "(xs if d else ys)", "(ys or xs)"):
                self.assertNotEqual(self.rows_of(f"for x in {walked}:", "    " + change), [], (walked, change))
        self.assertEqual(self.rows_of("for x in box.rows:", "    box.rows.append(x)"), [3])
        self.assertEqual(self.rows_of("for x in d.items():", "    d[x] = 1"), [3])
        self.assertEqual(self.rows_of("return [xs.pop() for x in xs]"), [2])
        self.assertEqual(self.rows_of("zs = xs if d else ys", "for x in ys:", "    zs.append(x)"), [4])
        self.assertEqual(self.rows_of("box.rows = xs", "for x in xs:", "    box.rows.append(x)"), [4])

    def test_what_passes(self):
        for walked in ("list(xs)", "sorted(xs)", "list(xs[1:])", "range(len(xs))", "ys"):
            self.assertEqual(self.rows_of(f"for x in {walked}:", "    xs.append(x)", "    xs[0] = x"), [], walked)
        self.assertEqual(self.rows_of("for x in xs:", "    ys[x] = xs[0]", "    n = len(xs)"), [])
        self.assertEqual(self.rows_of("for x in xs:", "    ys = list(xs)", "    ys.append(x)"), [])
        self.assertEqual(self.rows_of("for x in xs:", "    box.count(x)", "xs.append(1)"), [])


if __name__ == "__main__":
    unittest.main()
