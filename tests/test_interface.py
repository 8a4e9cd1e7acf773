"""The names, the arguments and the places that the interface of the document gives to the program."""

import importlib
import inspect
import unittest

FUNCTIONS = {
    "runs": {"run": "book, table, statement, picks=None", "class_of": "book, table", "least_table": "book, numbers"},
    "papers": {"outcome": "book, statement, numbers", "calls": "book, statements", "is_paper": "book, rows"},
    "same": {"unlike": "book, one, two", "books_unlike": "first, second, statements", "idle": "book, statements"},
    "sums": {"kept": "book, statements, first", "is_kept": "book, statements, first, form",
             "breaking": "book, statements, first, form", "shown": "book, statements, first"},
    "many": {"done_many": "book, statements, table, times, modulus"},
    "known": {"adding": "", "telling": "", "guarding": "number", "logging": "number", "falling": "width",
              "ringing": ""},
    "cuts": {"two_goes": "book, table, statement, first, second", "uncuttable": "book, statement"},
}
CLASSES = {
    "tables": {"Table": ("rows, counters=()", {
        "rows": "kind", "worth": "counter", "row_kinds": "", "counter_names": "", "size": "", "__eq__": "other",
        "__add__": "other"}, [])},
    "statements": {"Statement": ("turns, brings=()", {
        "turns": "", "brings": "", "reads": "", "writes": "", "__eq__": "other", "__or__": "other", "text": "",
        "parse": "text"}, [])},
    "forms": {"Form": ("parts, number=0", {
        "parts": "", "__add__": "other", "__sub__": "other", "__mul__": "other", "__eq__": "other", "of": "worths",
        "text": "", "parse": "text"}, ["integer"])},
    "books": {
        "Trigger": ("name, olds, news, tests, deeds", {"is_set_off_by": "statement", "__eq__": "other"},
                    ["label", "olds", "news", "tests", "deeds"]),
        "Book": ("kinds, counters, triggers", {"__eq__": "other", "text": "", "parse": "text"},
                 ["kinds", "counters", "triggers", "cap"])},
    "runs": {"Outcome": (None, {"fired": ""}, ["table"])},
    "bases": {"Base": ("book, table", {
        "now": "", "fired": "", "do": "statement, picks=None", "do_all": "statements", "undo": "", "again": ""},
        ["book"])},
}


def parameters(function):
    """Return the parameters of a function, as they are written between its brackets."""
    return str(inspect.signature(function))[1:-1]


class Interface(unittest.TestCase):
    def test_functions(self):
        for place, functions in FUNCTIONS.items():
            module = importlib.import_module("statementlots." + place)
            for name, told in functions.items():
                function = getattr(module, name)
                self.assertEqual(function.__module__, "statementlots." + place)
                self.assertEqual(parameters(function), told, name)

    def test_classes(self):
        for place, classes in CLASSES.items():
            module = importlib.import_module("statementlots." + place)
            for name, (told, methods, properties) in classes.items():
                made = getattr(module, name)
                self.assertEqual(made.__module__, "statementlots." + place)
                if told is not None:
                    self.assertEqual(parameters(made), told, name)
                for method, wanted in methods.items():
                    # What a base class has does not count.
                    own = vars(made)[method]
                    if isinstance(own, classmethod):
                        self.assertEqual(parameters(getattr(made, method)), wanted, (name, method))
                    else:
                        self.assertEqual(parameters(own), ", ".join(["self", wanted]) if wanted else "self")
                for one in properties:
                    self.assertIsInstance(vars(made)[one], property, (name, one))


if __name__ == "__main__":
    unittest.main()
