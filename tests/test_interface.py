"""The interface: what stands in which file, in which body, with which parameters."""

import inspect
import unittest

from handsweeps import (
    batches, borders, comparing, courses, cuts, decisions, hands, loads, logs, plans, prices, rows, staircases, sweeps,
    words,
)
from handsweeps.batches import Batch
from handsweeps.courses import Course
from handsweeps.cuts import Cut
from handsweeps.hands import Hand
from handsweeps.loads import Load
from handsweeps.logs import Asker, Log
from handsweeps.plans import Planner
from handsweeps.prices import Prices
from handsweeps.rows import Row
from handsweeps.staircases import Staircase
from handsweeps.sweeps import Backward, Forward, Sweep

SWEEP_METHODS = {"__init__": ("size",), "__call__": ("row",), "__eq__": 1}

# The parameters of each method; where only signs call it, how many there are.
METHODS = {
    Hand: {"__init__": ("size", "small"), "__call__": ("number",), "rest": ()},
    Sweep: SWEEP_METHODS,
    Forward: SWEEP_METHODS,
    Backward: SWEEP_METHODS,
    Row: {
        "__init__": ("numbers",), "of": ("numbers",), "is_under": ("other",), "__len__": 0, "__getitem__": 1,
        "__contains__": 1, "__eq__": 1, "__neg__": 0, "__add__": 1, "__rshift__": 1, "__iter__": 0,
    },
    Load: {
        "__init__": ("forward", "backward"), "covers": ("other",), "__eq__": 1, "__bool__": 0, "__neg__": 0,
        "__add__": 1, "__mul__": 1, "__rmul__": 1, "__and__": 1, "__or__": 1,
    },
    Cut: {"__init__": ("place", "bound"), "__eq__": 1},
    Staircase: {
        "__init__": ("loads",), "of_corners": ("corners",), "of_row": ("row",), "least": (), "corners": (),
        "shifted": ("load",), "__call__": ("forward",), "__len__": 0, "__contains__": 1, "__eq__": 1, "__and__": 1,
        "__or__": 1, "__neg__": 0,
    },
    Course: {
        "__init__": ("row", "budget"), "do": ("sweep",), "undo": (), "history": (), "attempt": ("function",),
        "__len__": 0,
    },
    Prices: {
        "__init__": ("forward", "backward"), "price_of": ("word",), "__call__": ("stairs",),
        "check": ("stairs", "value"), "within": ("stairs", "budget"), "check_within": ("stairs", "budget", "value"),
        "__eq__": 1,
    },
    Batch: {
        "__init__": ("rows",), "of": ("rows",), "staircase": (), "owners": (), "core": (), "check_core": ("value",),
        "stand_in": (), "__len__": 0, "__getitem__": 1, "__iter__": 0, "__contains__": 1, "__eq__": 1, "__add__": 1,
        "__rshift__": 1,
    },
    Log: {
        "__init__": ("many",), "between": ("many", "possible", "sure"), "of_batch": ("batch",), "copy": (),
        "tell": ("load", "answer"), "undo": (), "state": ("load",), "ask": ("load",), "check": ("load", "value"),
        "parts": ("load",), "goes_with": ("row",), "worst": (), "best": (), "how_many": (), "by_rank": ("rank",),
        "open_loads": (), "halving": (), "missing": ("row",), "core": (), "after": ("load",), "joined": ("other",),
        "__len__": 0, "__eq__": 1,
    },
    Asker: {"__init__": ("many",), "of": ("log",), "tell": ("answer",), "log": ()},
    Planner: {
        "__init__": ("prices", "question"), "__call__": ("log",), "check": ("log", "value"), "cost_for": ("plan", "row"),
    },
}
CLASS_METHODS = {"of", "of_corners", "of_row", "between", "of_batch"}
FUNCTIONS = {
    words: {"load_of": ("word",), "rows_after": ("row", "word")},
    cuts: {"counts": ("row", "cut")},
    decisions: {
        "decide": ("row", "load"), "check_decision": ("row", "load", "value"), "source_of": ("row", "load"),
        "check_source": ("row", "load", "value"),
    },
    staircases: {"corner_cuts": ("row",), "shows_stairs": ("row", "stairs", "value")},
    comparing: {
        "compare_words": ("many", "one", "other"), "check_comparison": ("many", "one", "other", "value"),
    },
    borders: {
        "profile": ("many", "stairs"), "stairs_of": ("values",), "order_for": ("many", "stairs"),
        "count_stairs": ("many",), "rank_of": ("many", "stairs"), "stairs_by_rank": ("many", "rank"),
        "all_stairs": ("many",),
    },
    logs: {"spread": ("prices", "log")},
    plans: {"follow": ("plan", "row"), "least_questions": ("log",)},
}
PROPERTIES = {
    Hand: ("held",), Sweep: ("size",), Forward: ("size",), Backward: ("size",),
    Row: ("numbers", "bounds", "is_in_order"), Load: ("forward", "backward"), Cut: ("place", "bound"),
    Course: ("now", "word", "total", "left"), Prices: ("forward", "backward"), Batch: ("rows",),
    Log: ("many", "answers", "sure", "possible", "is_settled"), Asker: ("next_load",), Planner: ("prices", "question"),
}
CLASS_VALUES = {
    Hand: {"MOST": 20}, Forward: {"LETTER": "f"}, Backward: {"LETTER": "b"}, Load: {"MOST": 1200},
    Staircase: {"MOST": 100}, Log: {"MOST": 400},
}
FILES = {
    hands: (Hand,), sweeps: (Sweep, Forward, Backward), rows: (Row,), loads: (Load,), cuts: (Cut,),
    staircases: (Staircase,), courses: (Course,), prices: (Prices,), batches: (Batch,), logs: (Log, Asker),
    plans: (Planner,),
}


def parameters(method):
    """The names of the parameters behind the first one."""
    return tuple(inspect.signature(method).parameters)[1:]


class Interface(unittest.TestCase):

    def test_files(self):
        for file, classes in FILES.items():
            for made in classes:
                self.assertEqual(made.__module__, file.__name__)

    def test_methods(self):
        for made, methods in METHODS.items():
            for name, expected in methods.items():
                with self.subTest(made=made, name=name):
                    method = vars(made)[name]
                    self.assertIs(isinstance(method, classmethod), name in CLASS_METHODS)
                    found = parameters(getattr(method, "__func__", method))
                    self.assertEqual(len(found) if isinstance(expected, int) else found, expected)

    def test_functions(self):
        for file, functions in FUNCTIONS.items():
            for name, expected in functions.items():
                with self.subTest(file=file.__name__, name=name):
                    function = vars(file)[name]
                    self.assertEqual(function.__module__, file.__name__)
                    self.assertEqual(tuple(inspect.signature(function).parameters), expected)

    def test_properties(self):
        for made, names in PROPERTIES.items():
            for name in names:
                with self.subTest(made=made, name=name):
                    self.assertIsInstance(vars(made)[name], property)

    def test_class_values(self):
        for made, values in CLASS_VALUES.items():
            for name, value in values.items():
                self.assertEqual(vars(made)[name], value)


if __name__ == "__main__":
    unittest.main()
