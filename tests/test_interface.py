import importlib
import inspect
import unittest

FUNCTIONS = {
    "names": {"check_name": ["name"], "check_number": ["number"]},
    "exits": {"state": ["pending"], "after": ["pending", "step", "kind", "guard", "answer"]},
    "actions": {"check_action": ["book", "action"], "halves": ["action"], "settled": ["action", "book", "store"]},
}
METHODS = {
    ("books", "Book"): (
        "__init__", "of", "define", "add_cell", "cells", "stores", "__setitem__", "__getitem__",
        "__contains__", "__len__", "__iter__", "__or__", "__ior__", "__eq__",
    ),
}


def module_of(file):
    return importlib.import_module("exitdeeds." + file)


class InterfaceTest(unittest.TestCase):
    def test_functions_with_their_arguments(self):
        for file, functions in FUNCTIONS.items():
            for word, arguments in functions.items():
                function = getattr(module_of(file), word)
                self.assertEqual(function.__module__, "exitdeeds." + file)
                self.assertEqual(list(inspect.signature(function).parameters), arguments)

    def test_methods_stand_in_the_class_itself(self):
        for (file, word), methods in METHODS.items():
            kind = getattr(module_of(file), word)
            self.assertEqual(kind.__module__, "exitdeeds." + file)
            for method in methods:
                self.assertIn(method, vars(kind))


if __name__ == "__main__":
    unittest.main()
