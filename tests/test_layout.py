"""Tests of the package's files: their names, signs and sizes, and what defines what."""

import ast
import unittest
from pathlib import Path

FOLDER = Path(__file__).resolve().parent.parent / "cornerturn"
INTERFACE = {
    "errors": ["WebError", "BadPlaces", "BadTies", "BadTie", "NoPlace", "BadPlan", "BadPiece", "HasGlue", "TooMany",
               "BadMove", "TooFar", "BadText"],
    "webs": ["Web"],
    "ranks": ["rank_of", "all_ranks", "is_ranks", "turns_needed", "best_starts"],
    "orders": ["overlookers", "an_order", "is_order", "a_core", "is_core"],
    "likeness": ["a_mapping", "is_mapping", "same_core"],
    "plans": ["a_plan", "plan_turns"],
    "outs": ["way_out", "is_way_out"],
    "runners": ["a_runner", "lasts"],
    "several": ["turns_with", "fewest"],
    "mending": ["ties_to_add", "places_to_shut"],
    "pieces": ["is_piece", "places_of", "ties_of", "enough", "turns_of", "web_of"],
    "chases": ["Chase"],
    "texts": ["web_text", "read_web"],
    "teams": ["BadPost", "posts", "seen_posts", "team_rank", "team_ranks", "team_starts", "team_plan",
              "team_plan_turns", "team_way_out", "is_team_way_out"],
    "paces": ["BadPace", "reach", "runs", "pace_rank", "pace_turns", "least_pace", "pace_plan", "pace_plan_turns",
              "pace_way_out", "is_pace_way_out"],
    "unseen": ["lots", "catches", "walk_turns", "a_walk", "a_refuge", "is_refuge"],
    "teamchases": ["TeamChase"],
}
METHODS = {
    ("webs", "Web"): ["__init__", "places", "ties", "sees", "parts", "without", "tied", "__eq__"],
    ("chases", "Chase"): ["__init__", "web", "guard", "runner", "turns", "who", "move", "left", "best", "undo", "fork",
                          "__eq__"],
    ("teamchases", "TeamChase"): ["__init__", "web", "post", "runner", "turns", "who", "move", "left", "best", "undo",
                                  "fork", "__eq__"],
}


class Layout(unittest.TestCase):
    def setUp(self):
        self.files = sorted(path for path in FOLDER.iterdir() if path.name != "__pycache__")

    def test_only_python_files(self):
        self.assertIn(FOLDER / "__init__.py", self.files)
        for path in self.files:
            self.assertRegex(path.name, r"\A[a-z_0-9]+\.py\Z")

    def test_signs_and_sizes(self):
        for path in self.files:
            text = path.read_bytes().decode("ascii")
            self.assertRegex(text, r"\A[ -~\n]*\Z")
            rows = text.split("\n")
            self.assertLessEqual(len(rows), 400, path.name)
            self.assertLessEqual(max(map(len, rows)), 120, path.name)
            for node in ast.walk(ast.parse(text)):
                if isinstance(node, ast.FunctionDef):
                    self.assertLessEqual(node.end_lineno - node.lineno + 1, 40, f"{path.name}: {node.name}")

    def test_imports_are_of_the_package(self):
        for path in self.files:
            for node in ast.walk(ast.parse(path.read_text())):
                self.assertNotIsInstance(node, ast.Import)
                if isinstance(node, ast.ImportFrom):
                    self.assertRegex(node.module, r"\A(cornerturn\.\w+|heapq|math|itertools|collections)\Z")

    def test_the_interface_is_defined_where_it_is_listed(self):
        for name, expected in INTERFACE.items():
            rows = ast.parse((FOLDER / f"{name}.py").read_text()).body
            defined = [row.name for row in rows if isinstance(row, (ast.ClassDef, ast.FunctionDef))]
            for word in expected:
                self.assertIn(word, defined)

    def test_the_methods_stand_in_the_classes_themselves(self):
        for (name, word), expected in METHODS.items():
            rows = ast.parse((FOLDER / f"{name}.py").read_text()).body
            (found,) = [row for row in rows if isinstance(row, ast.ClassDef) and row.name == word]
            defined = [row.name for row in found.body if isinstance(row, ast.FunctionDef)]
            for method in expected:
                self.assertIn(method, defined)


if __name__ == "__main__":
    unittest.main()
