"""The interface: names and arguments as the document lists them, and a package that binds nothing."""

import importlib
import inspect
import subprocess
import sys
import unittest

FUNCTIONS = {
    "makings": {"is_making": ["thing"], "names_in": ["making"], "parts_in": ["making"]},
    "books": {
        "is_book": ["thing"], "may_be_bare": ["book", "making"], "bare_names": ["book", "making"], "unfair": ["book"],
        "need_fair": ["book"],
    },
    "counts": {
        "count": ["book", "making", "size"], "counts": ["book", "making", "most"],
        "first_size": ["book", "making", "most"],
    },
    "things": {
        "listing": ["book", "making", "size"], "is_thing": ["book", "making", "thing"], "size_of": ["thing"],
        "is_ahead": ["book", "making", "one", "other"],
    },
    "numbers": {
        "number_of": ["book", "making", "thing"], "thing_at": ["book", "making", "size", "number"],
        "next_thing": ["book", "making", "thing"],
    },
    "draws": {
        "digits_for": ["many"], "drawn_number": ["many", "tape"], "drawn": ["book", "making", "size", "tape"],
    },
    "series": {
        "is_series": ["thing"], "added": ["one", "other"], "times": ["one", "other"], "rows_of": ["one"],
        "bags_of": ["one"], "sets_of": ["one"], "inside": ["one", "other"], "spread": ["one", "by"],
    },
    "fractions": {
        "is_plain": ["book", "making"], "fraction": ["book", "making"], "terms": ["pair", "most"],
        "parted_size": ["book", "one", "other"], "going_on": ["book", "making"], "times_of": ["one", "other"],
        "added_of": ["one", "other"],
    },
    "papers": {
        "step_makes": ["book", "making", "step"], "paper_makes": ["book", "making", "paper"],
        "led": ["book", "making", "paper", "thing"], "led_back": ["book", "making", "paper", "thing"],
        "turned": ["book", "making", "paper"], "shows_alike": ["book", "one", "other", "paper"],
    },
    "letters": {
        "by_letter": ["book", "making", "size", "letter"], "mean": ["book", "making", "size", "letter"],
        "letters_in": ["book", "making", "most"],
    },
    "rings": {
        "round_of": ["text"], "rings": ["letters", "size"], "how_many_rings": ["letters", "size"],
        "simple_rings": ["letters", "size"], "how_many_simple": ["letters", "size"], "falls": ["text"],
    },
    "avoiding": {
        "avoiders": ["letters", "bad", "size"], "how_many_avoid": ["letters", "bad", "size"],
        "is_ended": ["letters", "bad"], "first_avoider": ["letters", "bad", "size"],
        "avoider_at": ["letters", "bad", "size", "number"],
    },
    "parting": {"laid_over": ["some"], "unlike_of": ["some"], "odd_of": ["some"]},
    "texts": {
        "making_text": ["making"], "read_making": ["text"], "book_text": ["book"], "read_book": ["text"],
        "thing_text": ["thing"], "read_thing": ["text"],
    },
}


SHELF = {
    "__init__": ["book"], "put": ["word", "making"], "drop": ["word"], "undo": [], "all_rules": [],
    "counts": ["word", "most"], "deeds": [], "twin": [],
}


class InterfaceTest(unittest.TestCase):
    def test_functions(self):
        for module, functions in FUNCTIONS.items():
            found = importlib.import_module("countworks." + module)
            for name, arguments in functions.items():
                with self.subTest(module=module, name=name):
                    told = inspect.signature(getattr(found, name)).parameters
                    self.assertEqual(list(told), arguments)
                    for one in told.values():
                        self.assertEqual((one.kind, one.default), (one.POSITIONAL_OR_KEYWORD, one.empty))

    def test_arguments_by_name_alone(self):
        found = importlib.import_module("countworks.parting")
        for name in ("parts", "how_many_parts"):
            told = list(inspect.signature(getattr(found, name)).parameters.values())
            self.assertEqual([(one.name, one.default) for one in told], [
                ("number", inspect.Parameter.empty), ("most", 60), ("odd", False), ("unlike", False),
            ])
            self.assertEqual([one.kind == one.KEYWORD_ONLY for one in told], [False, True, True, True])

    def test_shelf(self):
        shelf = importlib.import_module("countworks.shelves").Shelf
        for name, arguments in SHELF.items():
            with self.subTest(name=name):
                # Each method stands in the class itself.
                self.assertIn(name, vars(shelf))
                told = inspect.signature(vars(shelf)[name]).parameters
                self.assertEqual(list(told), ["self"] + arguments)
                for one in told.values():
                    self.assertEqual((one.kind, one.default), (one.POSITIONAL_OR_KEYWORD, one.empty))

    def test_no_stage_is_left_out(self):
        for module in ("errors", "shelves", *FUNCTIONS):
            importlib.import_module("countworks." + module)
        self.assertEqual(len({"errors", "shelves", *FUNCTIONS}), 16)

    def test_the_package_binds_nothing(self):
        ask = "import countworks; print([name for name in vars(countworks) if not name.startswith('__')])"
        told = subprocess.run([sys.executable, "-c", ask], capture_output=True, text=True, check=True)
        self.assertEqual(told.stdout.strip(), "[]")


if __name__ == "__main__":
    unittest.main()
