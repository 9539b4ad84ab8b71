import importlib
import inspect
import unittest

from cellsatonce.errors import CellError

# For each module of the interface that exists: its functions and classes with their arguments,
# and for each class the methods that stand in it itself.
FUNCTIONS = {
    "histories": {
        "checked": "(history, *, size=2)",
        "may_tell": "(history, promise, *, size=2, start=0)",
        "fault": "(history, promise, *, size=2, start=0)",
        "earliest": "(history, *, size=2, start=0)",
        "order": "(history, *, size=2, start=0)",
    },
    "steps": {
        "initial": "(house)",
        "moves": "(house, state)",
        "event_of": "(step)",
    },
    "runs": {
        "run": "(house, steps)",
    },
    "standings": {
        "first_watch": "(promise, start)",
        "next_watch": "(promise, watch, event)",
        "first_standing": "(house, promise)",
        "next_standings": "(house, promise, standing)",
        "reach": "(house, promise, *, limit=3000)",
    },
    "kept": {
        "breaking": "(house, promise, *, limit=3000)",
        "strongest": "(house, *, limit=3000)",
        "closed": "(house, promise, *, limit=3000)",
        "closed_fault": "(house, promise, standings)",
        "inversion": "(house, *, limit=3000)",
    },
    "weaker": {
        "weaker_lots": "(house, promise, *, limit=3000)",
        "lot_paper": "(house, promise, lot, *, limit=3000)",
        "paper_fault": "(house, promise, lot, paper)",
    },
    "spare": {
        "spare_statements": "(house, promise, *, limit=3000)",
        "least_programs": "(house, promise, *, limit=3000)",
    },
    "limits": {
        "not_atomic": "(house, *, limit=3000)",
    },
    "worths": {
        "told_by": "(house, *, limit=3000)",
        "pairs": "(house, *, limit=3000)",
        "renamed": "(house, names)",
    },
    "texts": {
        "house_text": "(house)",
        "read_house": "(text)",
    },
    "waits": {
        "states": "(house, *, limit=3000)",
        "longest": "(house, side, *, limit=3000)",
        "waits": "(house, side, *, alone=False, limit=3000)",
    },
}
CLASSES = {
    "errors": {
        "BadHistory": {"__init__": "(self, index)"},
        "BadSetting": {"__init__": "(self, part)"},
        "BadPromise": {},
        "NoRead": {},
        "BadCell": {"__init__": "(self, part)"},
        "BadProgram": {"__init__": "(self, place, why)"},
        "BadHouse": {"__init__": "(self, why)"},
        "BadStep": {"__init__": "(self, index)"},
        "TooMany": {"__init__": "(self, limit)"},
        "NoPromise": {},
        "BadLot": {},
        "NotLeast": {"__init__": "(self, index)"},
        "NoCase": {"__init__": "(self, why)"},
        "BadText": {"__init__": "(self, line)"},
    },
    "cells": {
        "Cell": {
            "__init__": "(self, name, kind, size, start=0, *, owner='writer')",
            "__eq__": "(self, other)",
            "with_kind": "(self, kind)",
            "weaker_than": "(self, other)",
        },
    },
    "programs": {
        "Program": {
            "__init__": "(self, side, store, block)",
            "__eq__": "(self, other)",
            "walk": "(self)",
            "without": "(self, place)",
        },
    },
    "houses": {
        "House": {
            "__init__": "(self, cells, writer, reader, *, size=2, start=0)",
            "__eq__": "(self, other)",
            "__contains__": "(self, name)",
            "cell": "(self, name)",
            "with_kinds": "(self, kinds)",
            "with_programs": "(self, writer, reader)",
        },
    },
    "runs": {
        "Record": {},
        "Running": {
            "__init__": "(self, house)",
            "choices": "(self)",
            "can": "(self, step)",
            "step": "(self, step)",
            "back": "(self)",
            "would": "(self, steps)",
            "record": "(self)",
        },
    },
    "live": {
        "Live": {
            "__init__": "(self, house, promise)",
            "step": "(self, step)",
            "rewatch": "(self, promise)",
            "kept": "(self)",
            "standing": "(self)",
            "tellable": "(self)",
            "events": "(self)",
        },
    },
}


class InterfaceTest(unittest.TestCase):
    """The names and arguments of the interface, each in the file under which it is listed"""

    def test_functions(self):
        for module, functions in FUNCTIONS.items():
            for name, signature in functions.items():
                with self.subTest(module=module, name=name):
                    found = getattr(importlib.import_module("cellsatonce." + module), name)
                    self.assertTrue(inspect.isfunction(found))
                    self.assertEqual(found.__module__, "cellsatonce." + module)
                    self.assertEqual(str(inspect.signature(found)), signature)

    def test_classes(self):
        for module, classes in CLASSES.items():
            for name, methods in classes.items():
                with self.subTest(module=module, name=name):
                    found = getattr(importlib.import_module("cellsatonce." + module), name)
                    self.assertTrue(inspect.isclass(found))
                    self.assertEqual(found.__module__, "cellsatonce." + module)
                    for method, signature in methods.items():
                        self.assertIn(method, vars(found))
                        self.assertEqual(str(inspect.signature(vars(found)[method])), signature)

    def test_only_errors_are_errors(self):
        for module, classes in CLASSES.items():
            for name in classes:
                found = getattr(importlib.import_module("cellsatonce." + module), name)
                self.assertEqual(issubclass(found, CellError), module == "errors")


if __name__ == "__main__":
    unittest.main()
