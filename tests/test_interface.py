"""The interface: every name stands in the module that the document tells, with as many arguments."""

import importlib
import inspect
import unittest

FUNCTIONS = {
    "walksago.moves.texts": {"read_web": 1, "web_shown": 1},
    "walksago.moves.done": {"led_by": 2, "met_by": 2},
    "walksago.shares.chains": {"table_of": 1, "closed_classes": 1, "resting": 1, "rests": 2},
    "walksago.draws.backward": {"drawn_by": 2, "far_enough": 2},
    "walksago.meets.ever": {"shortest_past": 1, "never_meeting": 1, "never_shown": 2},
    "walksago.meets.howlong": {"back_on_average": 1, "walk_on_average": 2},
    "walksago.meets.orders": {"keep_order": 2, "met_by_two": 3},
    "walksago.meets.rows": {"orders_kept": 1},
    "walksago.wrong.lopped": {
        "lopped_ahead": 1, "lopped_back": 2, "apart": 2, "ahead_apart": 1, "back_apart": 2,
    },
    "walksago.wrong.once": {"read_once": 3, "block_meets": 2, "once_shares": 2},
    "walksago.watched.few": {"is_enough": 2, "fewest": 1},
    "walksago.watched.tables": {"web_of": 2},
    "walksago.watched.two": {"beside": 2},
}
CLASSES = {
    "walksago.kept": {
        "KeptDraw": {"__init__": 2, "put_back": 2, "put_now": 2, "past_now": 1, "leads_now": 1, "met_now": 1},
    },
    "walksago.whole": {"Desk": {"__init__": 1, "ask": 2}},
}


def places_in(function):
    return len(inspect.signature(function).parameters)


class InterfaceTest(unittest.TestCase):
    def test_functions(self):
        for module, names in FUNCTIONS.items():
            for name, many in names.items():
                function = getattr(importlib.import_module(module), name)
                self.assertEqual(function.__module__, module)
                self.assertEqual(places_in(function), many, name)

    def test_classes(self):
        for module, classes in CLASSES.items():
            for name, methods in classes.items():
                made = getattr(importlib.import_module(module), name)
                for method, many in methods.items():
                    self.assertIn(method, vars(made))
                    self.assertEqual(places_in(vars(made)[method]), many, method)


if __name__ == "__main__":
    unittest.main()
