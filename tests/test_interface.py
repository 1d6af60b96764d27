"""All names of the interface: their parameters, and the files and classes in which they are defined."""

import importlib
import inspect
import unittest

# For each module: its functions and the methods of its classes, with their parameters.
FUNCTIONS = {
    "samples": {"sample_vocabulary": [], "sample_program": []},
    "effects": {
        "effect": ["program"], "reach": ["program"], "is_first_order": ["program"], "fit": ["program", "other_program"],
    },
    "comparing": {
        "agree": ["program", "other_program"], "idle_words": ["program"], "commute": ["program", "other_program"],
        "undoes": ["program", "other_program"],
    },
    "cases": {"cases": ["program"], "first_difference": ["program", "other_program"], "unneeded": ["program"]},
    "running": {"run": ["program", "functions", "stack"]},
    "searching": {"shortest": ["program", "words"]},
    "libraries": {"attempt": ["library", "act"]},
    "checker": {"holds": ["claim", "paper"]},
    "certificates": {
        "certify_effect": ["program"], "certify_agreement": ["program", "other_program"],
        "certify_difference": ["program", "other_program"],
    },
    "reports": {"case_table": ["program"], "word_table": ["library"]},
}
METHODS = {
    ("vocabularies", "Vocabulary"): {
        "__init__": ["self", "entries"], "read": ["text"], "arity": ["self", "name"], "__str__": ["self"],
        "__repr__": ["self"], "__len__": ["self"], "__eq__": ["self", "other"],
    },
    ("programs", "Program"): {
        "__init__": ["self", "vocabulary", "text"], "then": ["self", "other_program"], "part": ["self", "start", "end"],
        "without": ["self", "place"], "quoted": ["self"], "__len__": ["self"], "__str__": ["self"], "__repr__": ["self"],
        "__eq__": ["self", "other"],
    },
    ("libraries", "Library"): {
        "__init__": ["self", "vocabulary"], "expand": ["self", "text"], "define": ["self", "name", "text"],
        "change": ["self", "name", "text"], "drop": ["self", "name"], "change_all": ["self", "deeds", "watch"],
        "undo": ["self"], "trial": ["self"], "text_of": ["self", "name"], "users": ["self", "name"], "__len__": ["self"],
        "__repr__": ["self"],
    },
    ("console", "Console"): {"__init__": ["self", "vocabulary"], "say": ["self", "row"]},
}


def parameters(function):
    return list(inspect.signature(function).parameters)


class InterfaceTest(unittest.TestCase):
    def test_functions(self):
        for file, functions in FUNCTIONS.items():
            module = importlib.import_module(f"stackquotes.{file}")
            for name, expected in functions.items():
                with self.subTest(file=file, name=name):
                    function = vars(module)[name]
                    self.assertTrue(inspect.isfunction(function))
                    self.assertEqual((function.__module__, parameters(function)), (module.__name__, expected))

    def test_methods(self):
        for (file, name), methods in METHODS.items():
            module = importlib.import_module(f"stackquotes.{file}")
            made = vars(module)[name]
            self.assertEqual(made.__module__, module.__name__)
            for method, expected in methods.items():
                with self.subTest(name=name, method=method):
                    self.assertIn(method, vars(made))
                    self.assertEqual(parameters(getattr(made, method)), expected)

    def test_parameters_can_be_given_by_keyword(self):
        kinds = (inspect.Parameter.POSITIONAL_OR_KEYWORD, inspect.Parameter.KEYWORD_ONLY)
        gathered = {("Vocabulary", "entries"), ("Library", "deeds")}
        for (file, name), methods in METHODS.items():
            made = vars(importlib.import_module(f"stackquotes.{file}"))[name]
            for method in methods:
                for parameter in inspect.signature(getattr(made, method)).parameters.values():
                    with self.subTest(name=name, method=method, parameter=parameter.name):
                        self.assertEqual(parameter.kind not in kinds, (name, parameter.name) in gathered)


if __name__ == "__main__":
    unittest.main()
