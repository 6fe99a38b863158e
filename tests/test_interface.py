import importlib
import inspect
import unittest

FUNCTIONS = {
    "names": {"check_name": ["name"], "check_number": ["number"]},
    "exits": {"state": ["pending"], "after": ["pending", "step", "kind", "guard", "answer"]},
    "actions": {"check_action": ["book", "action"], "halves": ["action"], "settled": ["action", "book", "store"]},
    "worlds": {"worlds": ["longest"]},
    "running": {"run": ["body", "world"]},
    "writing": {"write": ["body"], "write_action": ["action"], "write_leaving": ["leaving"]},
    "reading": {"read": ["book", "text"]},
    "plans": {"plan": ["body"]},
    "words": {
        "states_below": ["word", "states", "book"], "normal": ["word", "book"], "live": ["word", "states", "book"],
        "agenda": ["word", "leaving", "book"],
    },
    "showing": {"shows": ["body"], "world_for": ["body", "shown"], "never": ["body"]},
    "lying": {"lying": ["body", "leaving"]},
    "pairs": {"alike": ["first", "second"], "parting": ["first", "second"], "leads": ["first", "second"]},
    "families": {"family": ["body"]},
    "rewriting": {"pruned": ["body"], "early": ["body"]},
    "nesting": {"bounded": ["body"], "nested": ["body"]},
    "tables": {"table": ["chart"]},
    "logs": {"replayed": ["body", "log"]},
    "remainders": {"remainder": ["chart", "book", "world"], "parting_world": ["first", "second", "book"]},
    "passages": {"passages": ["body", "rule"], "breaking": ["body", "rule"], "keeps": ["body", "rule"]},
    "policies": {"policy": ["body", "tests", "exits"]},
    "covers": {"cover": ["body"]},
}
METHODS = {
    ("books", "Book"): (
        "__init__", "of", "define", "add_cell", "cells", "stores", "__setitem__", "__getitem__",
        "__contains__", "__len__", "__iter__", "__or__", "__ior__", "__eq__",
    ),
    ("bodies", "Body"): ("__init__", "__add__", "__mul__", "__rmul__", "__eq__", "__len__", "__call__", "actions"),
    ("worlds", "World"): (
        "__init__", "read", "text", "__len__", "__iter__", "__add__", "__lt__", "__le__", "__gt__", "__ge__", "__eq__",
    ),
    ("piles", "Pile"): (
        "__init__", "put", "__iadd__", "__len__", "__iter__", "limit", "change_limit", "unwind", "cut", "lay",
    ),
    ("charts", "Chart"): ("__len__", "__iter__", "targets", "beginning", "leavings", "describe"),
    ("plans", "Plan"): ("run", "describe"),
    ("agendas", "Agendas"): (
        "of", "__contains__", "__or__", "__and__", "__sub__", "__xor__", "__eq__", "__bool__", "finite", "size", "words",
    ),
    ("families", "Family"): ("__eq__", "run", "describe"),
    ("nesting", "Nested"): ("targets", "leavings", "depth", "stack", "run", "describe"),
    ("desks", "Desk"): (
        "__init__", "__setitem__", "__getitem__", "__contains__", "__len__", "__iter__", "load", "classes",
    ),
    ("walks", "Walk"): (
        "__init__", "answer", "back", "mark", "go", "change", "undo", "redo", "text", "read", "__len__", "__eq__",
    ),
    ("rules", "Rule"): ("__init__", "next_state", "reached", "__and__", "against"),
    ("policies", "Policy"): ("answer",),
}
PROPERTIES = {
    ("books", "Book"): ("cells", "stores"),
    ("worlds", "World"): ("text",),
    ("piles", "Pile"): ("limit",),
    ("agendas", "Agendas"): ("finite", "size"),
    ("nesting", "Nested"): ("depth",),
    ("walks", "Walk"): ("text",),
}
CLASS_METHODS = {
    ("books", "Book"): ("of",), ("worlds", "World"): ("read",), ("agendas", "Agendas"): ("of",),
    ("walks", "Walk"): ("read",), ("rules", "Rule"): ("against",),
}
CLASS_VALUES = {
    ("books", "Book"): {"STEPS": 12, "CELLS": 2},
    ("bodies", "Body"): {"STATEMENTS": 24, "DEPTH": 4, "SIZE": 120},
    ("walks", "Walk"): {"MARKS": 9},
    ("rules", "Rule"): {"STATES": 99},
}
GENERATORS = (("worlds", "worlds"), ("tables", "table"), ("agendas", "Agendas", "words"), ("desks", "Desk", "classes"))
ARGUMENTS = {
    ("books", "Book", "add_cell"): ["self", "name", "size"],
    ("bodies", "Body", "__init__"): ["self", "book", "statements"],
    ("bodies", "Body", "__call__"): ["self", "world"],
    ("worlds", "World", "__init__"): ["self", "answers"],
    ("piles", "Pile", "__init__"): ["self", "book"],
    ("piles", "Pile", "change_limit"): ["self", "value"],
    ("piles", "Pile", "unwind"): ["self", "pending", "store", "world"],
    ("piles", "Pile", "cut"): ["self", "at"],
    ("piles", "Pile", "lay"): ["self", "other"],
    ("charts", "Chart", "targets"): ["self", "row"],
    ("charts", "Chart", "beginning"): ["self", "row"],
    ("plans", "Plan", "run"): ["self", "book", "world"],
    ("agendas", "Agendas", "words"): ["self", "longest"],
    ("families", "Family", "run"): ["self", "book", "world"],
    ("nesting", "Nested", "targets"): ["self", "row"],
    ("nesting", "Nested", "stack"): ["self", "level"],
    ("nesting", "Nested", "run"): ["self", "book", "world"],
    ("desks", "Desk", "__init__"): ["self", "book"],
    ("walks", "Walk", "__init__"): ["self", "body"],
    ("walks", "Walk", "answer"): ["self", "answer"],
    ("walks", "Walk", "back"): ["self", "count"],
    ("walks", "Walk", "mark"): ["self", "name"],
    ("walks", "Walk", "go"): ["self", "name"],
    ("walks", "Walk", "change"): ["self", "body"],
    ("walks", "Walk", "undo"): ["self"],
    ("walks", "Walk", "redo"): ["self"],
    ("rules", "Rule", "__init__"): ["self", "states", "moves"],
    ("rules", "Rule", "next_state"): ["self", "before", "row"],
    ("rules", "Rule", "reached"): ["self", "rows"],
    ("policies", "Policy", "answer"): ["self", "world"],
}
CLASS_METHOD_ARGUMENTS = {
    ("worlds", "World", "read"): ["text"],
    ("walks", "Walk", "read"): ["body", "text"],
    ("rules", "Rule", "against"): ["rows"],
}


def module_of(file):
    return importlib.import_module("exitdeeds." + file)


class InterfaceTest(unittest.TestCase):
    def test_functions_with_their_arguments(self):
        for file, functions in FUNCTIONS.items():
            for word, arguments in functions.items():
                function = getattr(module_of(file), word)
                self.assertEqual(function.__module__, "exitdeeds." + file)
                self.assertEqual(list(inspect.signature(function).parameters), arguments)

    def test_methods_stand_in_the_class_itself(self):
        for (file, word), methods in METHODS.items():
            kind = getattr(module_of(file), word)
            self.assertEqual(kind.__module__, "exitdeeds." + file)
            for method in methods:
                self.assertIn(method, vars(kind))

    def test_properties_and_class_methods(self):
        for table, form in ((PROPERTIES, property), (CLASS_METHODS, classmethod)):
            for (file, word), names in table.items():
                for name in names:
                    self.assertIsInstance(vars(getattr(module_of(file), word))[name], form)

    def test_arguments_of_methods(self):
        for (file, word, method), arguments in ARGUMENTS.items():
            function = vars(getattr(module_of(file), word))[method]
            self.assertEqual(list(inspect.signature(function).parameters), arguments)

    def test_arguments_of_class_methods(self):
        for (file, word, method), arguments in CLASS_METHOD_ARGUMENTS.items():
            function = getattr(getattr(module_of(file), word), method)
            self.assertEqual(list(inspect.signature(function).parameters), arguments)

    def test_class_values(self):
        for (file, word), expected in CLASS_VALUES.items():
            values = vars(getattr(module_of(file), word))
            self.assertEqual({name: values[name] for name in expected}, expected)

    def test_what_yields(self):
        for file, *words in GENERATORS:
            thing = module_of(file)
            for word in words:
                thing = vars(thing)[word]
            self.assertTrue(inspect.isgeneratorfunction(thing), words)


if __name__ == "__main__":
    unittest.main()
