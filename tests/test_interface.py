"""The interface as the document lists it: names, arguments, defaults, and methods in the classes' own bodies."""

import importlib
import inspect
import unittest

FUNCTIONS = {
    "turns": {"read_turn": "(text)"},
    "names": {"parted": "(text)", "step_of": "(marks)", "marks_by": "(top, many)"},
    "roses": {"read_rose": "(text)"},
    "winds": {"wind_of": "(rose, name)", "winds": "(rose, where=None, key=None)"},
    "ways": {"turned": "(wind, by=1, back=False)", "across": "(wind)", "winds_to": "(one, other)",
             "halfway": "(one, other, long=False)"},
    "near": {"nearest": "(rose, turn)", "shortest": "(rose, turn, within=None)"},
    "tearing": {"torn": "(rose, text)", "healed": "(rose, text)"},
    "spreads": {"gathered": "(rose, where)"},
    "spreadtexts": {"read_spread": "(rose, text)"},
    "few": {"fewest": "(must, bar)"},
    "checker": {"holds": "(claim, paper)"},
    "papers": {"paper_home": "(walk)", "paper_alike": "(one, other)", "paper_least": "(walk)",
               "paper_fewest": "(must, bar)"},
    "peoples": {"both_say": "(one, other)", "leads": "(one, other)", "unsaid": "(one, other)"},
    "logs": {"read_log": "(rose, text)", "show_log": "(walk, wide=0, noughts=0)"},
    "deeds": {"do": "(name, wind, by=1)", "changed": "(some, deed, by=1)"},
}
CLASSES = {
    ("turns", "Turn"): {
        "__init__": "(self, top, bottom=1)", "__eq__": "(self, other)", "__str__": "(self)", "__repr__": "(self)",
        "plus": "(self, other)", "minus": "(self, other)", "times": "(self, many)", "opposite": "(self)",
        "below": "(self, other)", "apart": "(self, other)",
    },
    ("roses", "Rose"): {
        "__init__": "(self, words, halvings=2, begin=None)", "__eq__": "(self, other)", "__len__": "(self)",
        "__str__": "(self)", "__repr__": "(self)", "told": "(self, name)",
    },
    ("winds", "Wind"): {
        "__init__": "(self, rose, turn)", "__eq__": "(self, other)", "__len__": "(self)", "__str__": "(self)",
        "__repr__": "(self)", "place": "(self)", "names": "(self)",
    },
    ("spreads", "Spread"): {
        "__init__": "(self, rose, names=None)", "__eq__": "(self, other)", "__len__": "(self)", "__str__": "(self)",
        "__repr__": "(self)", "winds_in": "(self)", "has": "(self, wind)", "joined": "(self, other)",
        "met": "(self, other)", "without": "(self, other)", "rest": "(self)", "moved": "(self, by=1)",
        "stretches": "(self)",
    },
    ("walks", "Walk"): {
        "__init__": "(self, rose, steps=None)", "__eq__": "(self, other)", "__len__": "(self)", "__str__": "(self)",
        "__repr__": "(self)", "totals": "(self)", "length": "(self)", "then": "(self, name, many=1)",
        "joined": "(self, other)", "home": "(self)", "least": "(self)",
    },
    ("desk", "Desk"): {"__init__": "(self, rose)", "say": "(self, row)"},
}


def module(name):
    return importlib.import_module("rosenames." + name)


class InterfaceTest(unittest.TestCase):
    def test_functions(self):
        for file, functions in FUNCTIONS.items():
            for name, arguments in functions.items():
                function = getattr(module(file), name)
                self.assertEqual(str(inspect.signature(function)), arguments, name)
                self.assertEqual(function.__module__, "rosenames." + file)

    def test_classes_have_their_methods_in_their_own_bodies(self):
        for (file, name), methods in CLASSES.items():
            kind = getattr(module(file), name)
            self.assertEqual(kind.__module__, "rosenames." + file)
            for method, arguments in methods.items():
                self.assertIn(method, vars(kind), name)
                self.assertEqual(str(inspect.signature(vars(kind)[method])), arguments, (name, method))


if __name__ == "__main__":
    unittest.main()
