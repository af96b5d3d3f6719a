"""Everything that the document's interface lists of these modules exists as it is listed."""

import importlib
import inspect
import unittest

CLASSES = {
    "ratios.Ratio": {
        "__init__": ["top", "bottom"], "compared": ["other"], "over": ["other"], "read": ["text"],
        "__add__": 1, "__radd__": 1, "__sub__": 1, "__rsub__": 1, "__mul__": 1, "__rmul__": 1, "__eq__": 1,
        "__neg__": 0, "__str__": 0,
    },
    "forms.Form": {
        "__init__": ["constant", "terms"], "at": ["lengths"], "__add__": 1, "__sub__": 1, "__mul__": 1, "__neg__": 0,
        "__eq__": 1, "__str__": 0,
    },
    "facts.Facts": {
        "__init__": ["names", "forms"], "keeps": ["lengths"], "some": [], "greatest": ["form"], "least": ["form"],
        "follows": ["form"], "weighing": ["form"], "with_fact": ["form"], "without_fact": ["index"], "__eq__": 1,
        "__len__": 0,
    },
    "puppets.Puppet": {
        "__init__": ["parts", "ties", "hooks", "strings"], "distance": ["part", "other"], "has_way": ["hook", "part"],
        "heights": ["hooks", "lengths"], "taut": ["hooks", "lengths"], "without": ["names"], "__eq__": 1,
    },
    "scripts.Script": {
        "__init__": ["puppet", "start", "moves"], "then": ["move"], "run": ["lengths"], "__eq__": 1, "__len__": 0,
    },
    "scripts.Run": {"hook": ["moment", "hook"], "height": ["moment", "part"], "taut": ["moment"], "__len__": 0},
    "wishes.Wish": {
        "__init__": ["form"], "read": ["text"], "both": ["other"], "either": ["other"], "implies": ["other"],
        "denied": [], "is_over": ["script"], "holds": ["run"], "__eq__": 1, "__str__": 0,
    },
    "pieces.Piece": {"hook": ["moment", "hook"], "height": ["moment", "part"], "some": [], "has": ["lengths"]},
    "seen.Seen": {
        "__init__": ["script", "facts", "sights"], "fits": [], "with_sight": ["moment", "part", "height"], "some": [],
        "greatest": ["level"], "least": ["level"], "sure": ["level"], "always": ["wish"], "ever": ["wish"],
    },
    "stages.Stage": {
        "__init__": ["puppet", "facts", "start", "guards"], "do": ["move"], "undo": [], "trial": [],
        "heights": ["lengths"], "__len__": 0,
    },
    "consoles.Console": {"__init__": ["script", "facts"], "say": ["line"]},
}

FUNCTIONS = {
    "always.always": ["script", "facts", "wish"], "always.ever": ["script", "facts", "wish"],
    "always.breach": ["script", "facts", "wish"], "always.greatest": ["script", "facts", "level"],
    "always.least": ["script", "facts", "level"], "always.at_greatest": ["script", "facts", "level"],
    "always.at_least": ["script", "facts", "level"], "always.alike": ["script", "other", "facts"],
    "always.parting": ["script", "other", "facts"], "always.most_above": ["script", "other", "facts", "part"],
    "always.tolerance": ["script", "facts", "index", "wish"], "pieces.pieces": ["script", "facts"],
    "samples.stick_man": [], "samples.two_lines": [], "spares.idle": ["script", "facts"],
    "spares.least_sets": ["script", "facts", "wish"], "stages.attempt": ["stage", "act"],
    "checker.holds_claim": ["claim", "certificate"], "certificates.certify_always": ["script", "facts", "wish"],
    "certificates.certify_ever": ["script", "facts", "wish"],
}

DEFAULTS = {"bottom": 1, "constant": 0, "terms": (), "forms": (), "moves": (), "sights": (), "guards": ()}


def found(path):
    """What a module has under a name, and the name of the module."""
    module, name = path.split(".")
    return getattr(importlib.import_module(f"slackstrings.{module}"), name), f"slackstrings.{module}"


class InterfaceTest(unittest.TestCase):

    def assert_parameters(self, act, names):
        parameters = inspect.signature(act).parameters
        self.assertEqual(list(parameters), names)
        for name, parameter in parameters.items():
            self.assertIs(parameter.kind, inspect.Parameter.POSITIONAL_OR_KEYWORD)
            if parameter.default is not inspect.Parameter.empty:
                self.assertEqual(parameter.default, DEFAULTS[name])

    def test_classes(self):
        for path, methods in CLASSES.items():
            made, module = found(path)
            self.assertEqual(made.__module__, module)
            for name, names in methods.items():
                with self.subTest(path=path, name=name):
                    method = vars(made)[name]
                    if isinstance(method, staticmethod):
                        self.assert_parameters(method.__func__, names)
                    elif isinstance(names, int):
                        self.assertEqual(len(inspect.signature(method).parameters), 1 + names)
                    else:
                        self.assert_parameters(method, ["self", *names])

    def test_functions(self):
        for path, names in FUNCTIONS.items():
            with self.subTest(path=path):
                act, module = found(path)
                self.assertEqual(act.__module__, module)
                self.assert_parameters(act, names)

    def test_do_all(self):
        moves, watch = list(inspect.signature(vars(found("stages.Stage")[0])["do_all"]).parameters.values())[1:]
        self.assertEqual([moves.name, moves.default], ["moves", inspect.Parameter.empty])
        self.assertIs(moves.kind, inspect.Parameter.POSITIONAL_OR_KEYWORD)
        self.assertEqual([watch.name, watch.default], ["watch", None])
        self.assertIs(watch.kind, inspect.Parameter.KEYWORD_ONLY)

    def test_defaults(self):
        """Just these parameters may be left out."""
        names = {"ratios.Ratio": ["bottom"], "forms.Form": ["constant", "terms"], "facts.Facts": ["forms"],
                 "puppets.Puppet": [], "scripts.Script": ["moves"], "wishes.Wish": [], "seen.Seen": ["sights"],
                 "stages.Stage": ["guards"], "consoles.Console": []}
        for path, expected in names.items():
            parameters = inspect.signature(found(path)[0]).parameters.values()
            left = [each.name for each in parameters if each.default is not inspect.Parameter.empty]
            self.assertEqual(left, expected)

    def test_static_methods(self):
        for path in ("ratios.Ratio", "wishes.Wish"):
            self.assertIsInstance(vars(found(path)[0])["read"], staticmethod)
