"""Tests of slackstrings.errors."""

import inspect
import unittest

from slackstrings import errors
from slackstrings.errors import QuestionError, ShapeError, SizeError

PYTHONS_OWN = {ShapeError: ValueError, QuestionError: LookupError, SizeError: ArithmeticError}

ATTRIBUTES = {
    ShapeError: {
        "InvalidNumber": ["value"], "InvalidText": ["value"], "InvalidForm": ["value"],
        "InvalidName": ["value"], "InvalidFacts": ["index"], "InvalidParts": ["index"],
        "InvalidTies": ["index"], "InvalidHooks": ["value"], "InvalidStrings": ["index"],
        "InvalidHeights": ["value"], "InvalidLengths": ["value"], "InvalidMoves": ["index"],
        "InvalidMoment": ["value"], "InvalidLevel": ["value"], "InvalidWish": ["value"],
        "InvalidSights": ["index"], "InvalidGuards": ["index"], "InvalidLine": ["value"],
        "NotFacts": ["value"], "NotAPuppet": ["value"], "NotAScript": ["value"],
        "NotARun": ["value"], "NotAWish": ["value"],
    },
    QuestionError: {
        "UnknownPart": ["value"], "UnknownHook": ["value"], "UnknownName": ["value"],
        "NoWay": ["index"], "OtherNames": ["given"], "OtherParts": ["given"],
        "Contradictory": ["weights"], "Never": [], "Busy": [], "NothingToUndo": [],
        "Refused": ["move", "shown"],
    },
    SizeError: {"TooMany": ["limit"]},
}

ROWS = [(base, name, names) for base, table in ATTRIBUTES.items() for name, names in table.items()]


class Hostile:
    """Whoever asks it anything fails."""

    def __eq__(self, other):
        raise RuntimeError

    def __str__(self):
        raise RuntimeError

    __bool__ = __len__ = __hash__ = __repr__ = __str__


VALUES = [None, True, 0, 7, "", "text", (), (1, 2), [], [[1]], {"a": 1}, object(), Hostile(), ValueError]


class BasesTest(unittest.TestCase):

    def test_bases_derive_from_pythons_own_errors_directly(self):
        for base, own in PYTHONS_OWN.items():
            with self.subTest(base=base.__name__):
                self.assertEqual(base.__bases__, (own,))

    def test_bases_can_be_raised_and_caught(self):
        for base, own in PYTHONS_OWN.items():
            with self.subTest(base=base.__name__), self.assertRaises(own):
                raise base("words")


class ErrorsTest(unittest.TestCase):

    def test_every_error_is_listed(self):
        found = {name for name, value in vars(errors).items()
                 if isinstance(value, type) and value not in PYTHONS_OWN}
        self.assertEqual(found, {name for _, name, _ in ROWS})
        self.assertEqual(len(ROWS), 35)

    def test_each_derives_from_its_base_and_from_no_other_class_there(self):
        for base, name, _ in ROWS:
            with self.subTest(name=name):
                error = getattr(errors, name)
                self.assertEqual(error.__bases__, (base,))
                self.assertEqual(error.__module__, "slackstrings.errors")
                for other in PYTHONS_OWN:
                    self.assertEqual(issubclass(error, other), other is base)

    def test_attributes_by_place(self):
        for _, name, names in ROWS:
            for value in VALUES:
                with self.subTest(name=name, kind=type(value).__name__):
                    given = [value, (value,)][:len(names)]
                    error = getattr(errors, name)(*given)
                    self.assert_holds(error, names, given)

    def test_attributes_by_name(self):
        for _, name, names in ROWS:
            for value in VALUES:
                with self.subTest(name=name, kind=type(value).__name__):
                    given = [value, (value,)][:len(names)]
                    error = getattr(errors, name)(**dict(reversed(list(zip(names, given)))))
                    self.assert_holds(error, names, given)

    def assert_holds(self, error, names, given):
        self.assertEqual(sorted(vars(error)), sorted(names))
        for name, value in zip(names, given):
            self.assertIs(getattr(error, name), value)

    def test_each_can_be_raised_and_caught_by_its_base(self):
        for base, name, names in ROWS:
            with self.subTest(name=name), self.assertRaises(base) as caught:
                raise getattr(errors, name)(*names)
            self.assertIs(type(caught.exception), getattr(errors, name))

    def test_parameters_have_the_names_of_the_attributes(self):
        for _, name, names in ROWS:
            if names:
                with self.subTest(name=name):
                    told = inspect.signature(getattr(errors, name).__init__).parameters
                    self.assertEqual(list(told)[1:], names)
                    with self.assertRaises(TypeError):
                        getattr(errors, name)()
