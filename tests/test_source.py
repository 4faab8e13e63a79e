"""What the package's files keep to: kinds of files, sizes, signs, imports and where things are defined."""

import ast
import os
import unittest

HERE = os.path.dirname(os.path.dirname(os.path.abspath(__file__)))
PACKAGE = os.path.join(HERE, "foldbough")

INTERFACE = {
    "errors": ["FoldError", "NoColumns", "NoStretch", "NoCosts", "NothingDone", "NoRow", "NoTree", "NoFold", "NoPaper",
               "NoPlace", "NoText", "NoLine", "NoColumn", "NoName", "NoTurn", "NoFit", "NoBunch", "TooMany"],
    "tables": ["Table", "joined", "kept_rows"],
    "trees": ["Tree", "fits", "tree_beside"],
}

METHODS = {
    "Table": ["columns", "rows", "has", "with_row", "without_row", "of", "__len__", "__eq__", "__str__"],
    "Tree": ["columns", "pairs", "over", "above", "beneath", "children", "is_above", "__len__", "__eq__", "__str__"],
}


def files():
    return [name for name in sorted(os.listdir(PACKAGE)) if name != "__pycache__"]


def text_of(name):
    with open(os.path.join(PACKAGE, name), encoding="utf-8") as file:
        return file.read()


class Source(unittest.TestCase):
    def test_files_and_sizes(self):
        self.assertIn("__init__.py", files())
        for name in files():
            self.assertTrue(name.endswith(".py"), name)
            lines = text_of(name).split("\n")
            self.assertLessEqual(len(lines), 399, name)
            for line in lines:
                self.assertLessEqual(len(line), 120, name)
                self.assertTrue(all(" " <= sign <= "~" for sign in line), name)

    def test_functions_of_at_most_forty_lines(self):
        for name in files():
            for node in ast.walk(ast.parse(text_of(name))):
                if isinstance(node, ast.FunctionDef):
                    self.assertLessEqual(node.end_lineno - node.lineno + 1, 40, node.name)
                    self.assertEqual(node.decorator_list, [], node.name)

    def test_imports_from_the_package_alone(self):
        for name in files():
            for node in ast.walk(ast.parse(text_of(name))):
                self.assertNotIsInstance(node, ast.Import, name)
                if isinstance(node, ast.ImportFrom):
                    self.assertTrue(node.module.startswith("foldbough."), name)

    def test_interface_is_defined_where_it_is_listed(self):
        for name, words in INTERFACE.items():
            body = ast.parse(text_of(name + ".py")).body
            defined = [node.name for node in body if isinstance(node, (ast.ClassDef, ast.FunctionDef))]
            self.assertEqual([word for word in words if word not in defined], [], name)

    def test_methods_are_defined_in_their_class(self):
        for name in files():
            for node in ast.parse(text_of(name)).body:
                if isinstance(node, ast.ClassDef) and node.name in METHODS:
                    defined = [part.name for part in node.body if isinstance(part, ast.FunctionDef)]
                    self.assertEqual([word for word in METHODS[node.name] if word not in defined], [], node.name)


if __name__ == "__main__":
    unittest.main()
