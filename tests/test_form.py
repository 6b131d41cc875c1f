"""The form of the package's files, as far as a short test can see it."""

import ast
import pathlib
import unittest

FOLDER = pathlib.Path(__file__).resolve().parent.parent / "countahead"

INTERFACE = {
    "rows": ["is_line", "is_code", "counted", "row_after", "rows_of", "ranks"],
    "steps": ["last_smaller", "final_row", "is_still", "person_rounds", "rounds_needed", "meet"],
    "forests": ["parent", "children", "roots", "depths", "stretch", "brackets", "read_brackets"],
    "still": ["count_still", "nth_still", "still_number"],
    "orders": ["is_order", "order_of", "count_orders", "nth_order", "order_number"],
    "marks": ["least_below", "greatest_marks", "count_marks"],
    "before": ["least_before", "has_before", "count_before", "nth_before", "number_before"],
    "reading": ["relation_in", "relation_after", "certain_pairs"],
    "weights": ["is_weights", "weighted_after", "weighted_final", "weighted_needed"],
    "live": ["LiveLine"],
    "texts": ["show_line", "read_line"],
    "console": ["Console"],
    "errors": [
        "MarkError", "NoLine", "NoPerson", "NoMark", "NoRounds", "NoSize", "NoNumber", "NoBound", "NoWeights",
        "NotStill", "NotAlike", "NoCode", "NoOrder", "Full", "Nothing", "NoOperation", "NoText", "NoRow",
    ],
}


METHODS = {
    ("live", "LiveLine"): [
        "line", "final", "stands", "of", "still", "round", "rounds", "join", "leave", "mark", "undo", "log", "preview",
        "__init__", "__len__", "__eq__",
    ],
    ("console", "Console"): ["__init__", "say"],
}

TAKEN_FROM_MATH = ("comb", "factorial")


def files():
    return sorted(FOLDER.glob("*.py"))


def tree_of(path):
    return ast.parse(path.read_text(encoding="utf-8"))


def defined_in(path):
    names = []
    for node in tree_of(path).body:
        if isinstance(node, (ast.FunctionDef, ast.ClassDef)):
            names.append(node.name)
        if isinstance(node, ast.Assign):
            names.extend(target.id for target in node.targets)
    return names


class FormTest(unittest.TestCase):

    def test_only_python_files(self):
        for path in FOLDER.iterdir():
            # Python itself makes this one where it is not told otherwise.
            if path.name != "__pycache__":
                self.assertEqual(path.suffix, ".py", path)
        self.assertIn(FOLDER / "__init__.py", files())

    def test_characters_and_sizes(self):
        for path in files():
            data = path.read_bytes()
            self.assertTrue(all(byte == 10 or 32 <= byte <= 126 for byte in data), path)
            lines = data.decode("ascii").splitlines()
            self.assertLessEqual(len(lines), 399, path)
            for line in lines:
                self.assertLessEqual(len(line), 120, (path, line))

    def test_sizes_of_functions(self):
        for path in files():
            for node in ast.walk(tree_of(path)):
                if isinstance(node, ast.FunctionDef):
                    self.assertLessEqual(node.end_lineno - node.lineno + 1, 40, (path, node.name))

    def test_no_float_and_no_division(self):
        for path in files():
            for node in ast.walk(tree_of(path)):
                self.assertNotIsInstance(node, ast.Div, path)
                if isinstance(node, ast.Constant):
                    self.assertNotIsInstance(node.value, (float, complex), path)

    def test_imports_name_the_file_that_defines_the_name(self):
        for path in files():
            for node in ast.walk(tree_of(path)):
                self.assertNotIsInstance(node, ast.Import, path)
                if isinstance(node, ast.ImportFrom) and node.module == "math":
                    self.assertTrue(all(alias.name in TAKEN_FROM_MATH for alias in node.names), path)
                elif isinstance(node, ast.ImportFrom):
                    package, module = node.module.split(".")
                    self.assertEqual((package, node.level), ("countahead", 0), path)
                    known = defined_in(FOLDER / f"{module}.py")
                    for alias in node.names:
                        self.assertIn(alias.name, known, path)

    def test_the_interface_stands_in_its_files(self):
        for module, names in INTERFACE.items():
            known = defined_in(FOLDER / f"{module}.py")
            for name in names:
                self.assertEqual(known.count(name), 1, (module, name))

    def test_the_methods_stand_in_their_classes(self):
        for (module, name), methods in METHODS.items():
            found = [node for node in tree_of(FOLDER / f"{module}.py").body if getattr(node, "name", "") == name]
            self.assertEqual([type(node) for node in found], [ast.ClassDef])
            known = [node.name for node in found[0].body if isinstance(node, ast.FunctionDef)]
            for method in methods:
                self.assertEqual(known.count(method), 1, (name, method))

    def test_what_the_rules_bar_beside_a_class_that_compares(self):
        for path in files():
            for node in ast.walk(tree_of(path)):
                self.assertNotIsInstance(node, ast.GeneratorExp, path)
                self.assertFalse(isinstance(node, ast.Attribute) and node.attr == "sort", path)


if __name__ == "__main__":
    unittest.main()
