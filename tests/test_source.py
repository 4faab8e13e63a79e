"""What the package's files keep to: kinds of files, sizes, signs, imports and where things are defined."""

import ast
import builtins
import os
import unittest

HERE = os.path.dirname(os.path.dirname(os.path.abspath(__file__)))
PACKAGE = os.path.join(HERE, "foldbough")

INTERFACE = {
    "errors": ["FoldError", "NoColumns", "NoStretch", "NoCosts", "NothingDone", "NoRow", "NoTree", "NoFold", "NoPaper",
               "NoPlace", "NoText", "NoLine", "NoColumn", "NoName", "NoTurn", "NoFit", "NoBunch", "TooMany"],
    "tables": ["Table", "joined", "kept_rows"],
    "trees": ["Tree", "fits", "tree_beside"],
    "folds": ["Fold"],
    "papers": ["fold_of", "single", "unfolded", "mix", "folded", "check_mixed", "road_to", "parting"],
    "joins": ["fold_join", "keys_of", "places", "check_places"],
    "healed": ["healed"],
    "sums": ["counts", "roads", "through", "total", "sum_of", "product_of", "by", "sums_by"],
    "costs": ["least", "greatest"],
    "orders": ["row_at", "place_of", "first_from", "between"],
    "walker": ["Walker"],
    "algebra": ["kept", "without", "beside", "brought", "met", "within"],
    "unions": ["united", "less", "put_in", "took_out"],
    "turns": ["swung", "lowered", "lifted", "turned_to"],
    "lightest": ["lightest"],
    "keeper": ["Keeper"],
    "texts": ["show_tree", "show_table", "show_fold", "read_tree", "read_table", "read_fold"],
    "desk": ["Desk"],
}

METHODS = {
    "Table": ["columns", "rows", "has", "with_row", "without_row", "of", "__len__", "__eq__", "__str__"],
    "Tree": ["columns", "pairs", "over", "above", "beneath", "children", "is_above", "__len__", "__eq__", "__str__"],
    "Fold": ["tree", "bunches", "tops", "count", "weight", "has", "__len__", "__eq__", "__str__"],
    "Walker": ["__init__", "row", "where", "step", "back", "to", "twin"],
    "Keeper": ["__init__", "table", "ask", "drop", "tables", "questions", "deeds", "table_of", "asked", "fold", "part",
               "put", "take", "undo", "twin"],
    "Desk": ["__init__", "say"],
}

# The builtins that the language rules let stand, but those that the program has no use for.
BUILTINS = ["len", "range", "enumerate", "zip", "min", "max", "sum", "abs", "sorted", "reversed", "int", "str", "bool",
            "list", "tuple", "dict", "set", "isinstance", "any", "all", "ValueError"]

# The methods of builtin values that the language rules let stand.
OF_BUILTINS = """append clear copy count endswith extend find get index insert isalnum isalpha isdigit islower isspace
isupper items join keys ljust lower lstrip partition pop remove replace reverse rfind rjust rpartition rsplit rstrip
setdefault split splitlines startswith strip update upper values zfill bit_length""".split()


def files():
    return [name for name in sorted(os.listdir(PACKAGE)) if name != "__pycache__"]


def text_of(name):
    with open(os.path.join(PACKAGE, name), encoding="utf-8") as file:
        return file.read()


def bound_names(tree):
    """The names of all parameters and variables."""
    names = {node.id for node in ast.walk(tree) if isinstance(node, ast.Name) and isinstance(node.ctx, ast.Store)}
    return names | {node.arg for node in ast.walk(tree) if isinstance(node, ast.arg)}


class Source(unittest.TestCase):
    def test_files_and_sizes(self):
        self.assertIn("__init__.py", files())
        for name in files():
            self.assertTrue(name.endswith(".py"), name)
            lines = text_of(name).split("\n")
            self.assertLessEqual(len(lines), 399, name)
            for line in lines:
                self.assertLessEqual(len(line), 120, name)
                self.assertTrue(all(" " <= sign <= "~" for sign in line), name)

    def test_functions_of_at_most_forty_lines(self):
        for name in files():
            for node in ast.walk(ast.parse(text_of(name))):
                if isinstance(node, ast.FunctionDef):
                    self.assertLessEqual(node.end_lineno - node.lineno + 1, 40, node.name)
                    self.assertEqual(node.decorator_list, [], node.name)

    def test_imports_from_the_package_alone(self):
        for name in files():
            for node in ast.walk(ast.parse(text_of(name))):
                self.assertNotIsInstance(node, ast.Import, name)
                if isinstance(node, ast.ImportFrom):
                    self.assertTrue(node.module.startswith("foldbough."), name)

    def test_names_have_one_meaning(self):
        for name in files():
            tree = ast.parse(text_of(name))
            taken = set(dir(builtins))
            for node in ast.walk(tree):
                if isinstance(node, ast.ImportFrom):
                    taken.update(word.name for word in node.names)
            classes = {node.name for node in ast.walk(tree) if isinstance(node, ast.ClassDef)}
            functions = {node.name for node in tree.body if isinstance(node, ast.FunctionDef)}
            self.assertEqual(bound_names(tree) & (taken | classes), set(), name)
            self.assertEqual((classes | functions) & taken, set(), name)

    def test_builtins_that_may_stand(self):
        for name in files():
            tree = ast.parse(text_of(name))
            for node in ast.walk(tree):
                if isinstance(node, ast.Name) and node.id in dir(builtins):
                    self.assertIn(node.id, BUILTINS, name)

    def test_methods_that_may_be_called(self):
        trees = [ast.parse(text_of(name)) for name in files()]
        own = {part.name for tree in trees for node in tree.body if isinstance(node, ast.ClassDef)
               for part in node.body if isinstance(part, ast.FunctionDef)}
        for tree in trees:
            for node in ast.walk(tree):
                if isinstance(node, ast.Call) and isinstance(node.func, ast.Attribute):
                    self.assertIn(node.func.attr, OF_BUILTINS + sorted(own))
                    if node.func.attr in OF_BUILTINS:
                        self.assertEqual(node.keywords, [], node.func.attr)

    def test_what_the_language_rules_leave_out(self):
        left_out = (ast.GeneratorExp, ast.Yield, ast.YieldFrom, ast.Global, ast.Div, ast.Pow, ast.Mod)
        for name in files():
            for node in ast.walk(ast.parse(text_of(name))):
                self.assertNotIsInstance(node, left_out, name)
                if isinstance(node, ast.Constant):
                    self.assertNotIsInstance(node.value, (float, bytes, complex), name)
                    self.assertNotIn("%", node.value if isinstance(node.value, str) else "", name)
                if isinstance(node, ast.Compare) and any(isinstance(sign, (ast.Is, ast.IsNot)) for sign in node.ops):
                    self.assertIsInstance(node.comparators[0], ast.Constant, name)

    def test_own_errors_alone_are_caught(self):
        for name in files():
            for node in ast.walk(ast.parse(text_of(name))):
                if isinstance(node, ast.Try):
                    self.assertEqual(node.finalbody, [], name)
                    for handler in node.handlers:
                        self.assertIn(handler.type.id, INTERFACE["errors"], name)

    def test_stars_stand_beside_names_and_attributes(self):
        for name in files():
            for node in ast.walk(ast.parse(text_of(name))):
                if isinstance(node, ast.Call) and any(isinstance(word, ast.Starred) for word in node.args):
                    for word in node.args:
                        plain = word.value if isinstance(word, ast.Starred) else word
                        self.assertIsInstance(plain, (ast.Name, ast.Attribute), name)

    def test_no_method_is_an_attribute_of_its_class(self):
        for name in files():
            for node in ast.parse(text_of(name)).body:
                if isinstance(node, ast.ClassDef):
                    methods = {part.name for part in node.body if isinstance(part, ast.FunctionDef)}
                    told = {part.attr for part in ast.walk(node)
                            if isinstance(part, ast.Attribute) and isinstance(part.ctx, ast.Store)}
                    self.assertEqual(methods & told, set(), node.name)

    def test_imports_run_in_no_circle(self):
        found = {}
        for name in files():
            body = ast.parse(text_of(name)).body
            found["foldbough." + name[:-3]] = {node.module for node in body if isinstance(node, ast.ImportFrom)}
        while found:
            free = [name for name, told in found.items() if not told & set(found)]
            self.assertNotEqual(free, [], sorted(found))
            for name in free:
                del found[name]

    def test_interface_is_defined_where_it_is_listed(self):
        for name, words in INTERFACE.items():
            body = ast.parse(text_of(name + ".py")).body
            defined = [node.name for node in body if isinstance(node, (ast.ClassDef, ast.FunctionDef))]
            self.assertEqual([word for word in words if word not in defined], [], name)

    def test_methods_are_defined_in_their_class(self):
        for name in files():
            for node in ast.parse(text_of(name)).body:
                if isinstance(node, ast.ClassDef) and node.name in METHODS:
                    defined = [part.name for part in node.body if isinstance(part, ast.FunctionDef)]
                    self.assertEqual([word for word in METHODS[node.name] if word not in defined], [], node.name)


if __name__ == "__main__":
    unittest.main()
