"""Those rules of ../shared/LANGUAGE.md for the package that a short look at its files can tell."""

import ast
import builtins
import unittest
from pathlib import Path

PACKAGE = Path(__file__).resolve().parent.parent / "nightslates"
BUILTINS = set("""len range enumerate zip min max sum abs sorted reversed int str bool list tuple dict set isinstance ord
    repr any all divmod type property ValueError KeyError""".split())
METHODS = set("""append clear copy count endswith extend find get index insert items join keys pop remove replace reverse
    setdefault split startswith strip update values bit_length""".split())
LIBRARY = {"heapq": {"heappush", "heappop"}, "math": {"gcd", "comb"}, "itertools": {"combinations", "product"}}


class Language(unittest.TestCase):
    def files(self):
        found = sorted(path for path in PACKAGE.rglob("*") if "__pycache__" not in path.parts)
        self.assertIn(PACKAGE / "__init__.py", found)
        self.assertTrue(all(path.suffix == ".py" for path in found))
        return [(path.name, path.read_text(encoding="utf-8")) for path in found]

    def nodes(self):
        return [(name, node) for name, text in self.files() for node in ast.walk(ast.parse(text))]

    def test_sizes_and_signs(self):
        for name, text in self.files():
            self.assertLessEqual(len(text.splitlines()), 399, name)
            self.assertLessEqual(max([len(line) for line in text.splitlines()], default=0), 120, name)
            self.assertTrue(all(sign == "\n" or " " <= sign <= "~" for sign in text), name)

    def test_functions(self):
        for name, node in self.nodes():
            if isinstance(node, ast.ClassDef):
                self.assertEqual(node.decorator_list, [], (name, node.name))
            if isinstance(node, ast.FunctionDef):
                words = [ast.unparse(decorator) for decorator in node.decorator_list]
                self.assertIn(words, ([], ["property"]), (name, node.name))
                self.assertLessEqual(node.end_lineno - node.lineno + 1, 40, (name, node.name))

    def test_imports(self):
        for name, node in self.nodes():
            self.assertNotIsInstance(node, ast.Import, name)
            if isinstance(node, ast.ImportFrom):
                words = {alias.name for alias in node.names}
                self.assertTrue(node.module.startswith("nightslates.") or words <= LIBRARY.get(node.module, set()), name)

    def test_words(self):
        methods = METHODS | {method.name for _, node in self.nodes() if isinstance(node, ast.ClassDef)
                             for method in node.body if isinstance(method, ast.FunctionDef)}
        for name, node in self.nodes():
            if isinstance(node, ast.Name) and hasattr(builtins, node.id):
                self.assertIn(node.id, BUILTINS, (name, node.lineno))
            if isinstance(node, ast.Call) and isinstance(node.func, ast.Attribute):
                self.assertIn(node.func.attr, methods, (name, node.lineno))

    def test_no_floats(self):
        for name, node in self.nodes():
            self.assertFalse(isinstance(node, ast.Constant) and isinstance(node.value, (float, complex)), name)
            self.assertNotIsInstance(node, (ast.Div, ast.Global, ast.AsyncFunctionDef, ast.Await), name)

    def test_names(self):
        """No parameter and no variable has the name of a class or an import of its file, or of a builtin."""
        for name, text in self.files():
            tree = ast.parse(text)
            taken = {alias.name for node in ast.walk(tree) if isinstance(node, ast.ImportFrom) for alias in node.names}
            taken |= {node.name for node in ast.walk(tree) if isinstance(node, ast.ClassDef)} | set(dir(builtins))
            for node in ast.walk(tree):
                words = []
                if isinstance(node, ast.arg):
                    words = [node.arg]
                if isinstance(node, ast.Name) and isinstance(node.ctx, ast.Store):
                    words = [node.id]
                self.assertFalse(set(words) & taken, (name, words))

    def test_no_two_files_import_from_each_other(self):
        imports = {}
        for name, node in self.nodes():
            modules = imports.setdefault("nightslates." + name[:-3], set())
            if isinstance(node, ast.ImportFrom):
                modules.add(node.module)
        while imports:
            ends = [module for module, others in imports.items() if not others & set(imports)]
            self.assertTrue(ends, imports)
            for module in ends:
                del imports[module]
