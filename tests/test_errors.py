"""[5]: the error classes."""

import inspect
import unittest

from deedmeanings import errors
from deedmeanings.books import Book
from deedmeanings.errors import DeedError
from deedmeanings.says import Say

PARAMETERS = {
    "BadName": "name", "BadTruth": "thing", "BadTerm": "index", "BadTests": "thing", "BadDeeds": "thing",
    "BadPromise": "index", "BadTruths": "thing", "NoDeed": "thing", "NoTest": "name", "UnlikeBooks": None,
    "BadCount": "thing", "NoPlace": "thing", "BadSize": "thing", "BadSet": "name", "BadWays": "name",
    "Broken": "promise", "NoState": "thing", "BadRow": "thing", "BadLine": "index", "NoName": "name",
    "Refused": "row", "Leaned": "name", "NothingToUndo": None, "BadText": None, "BadBar": "index",
    "BadIndex": "thing", "NoRow": "thing", "BadCosts": "name", "BadPurse": "thing", "BadWeights": "name",
    "NotSure": None, "BadEquation": "name",
}


def any_objects():
    return [0, True, None, "x", "", [1, [2]], ("a", ()), {"a": [1]}, Say.test("a"), Book([], ["d"])]


class Errors(unittest.TestCase):
    def test_the_classes_are_those_of_the_interface(self):
        found = {name for name, thing in vars(errors).items() if inspect.isclass(thing)}
        self.assertEqual(found, set(PARAMETERS) | {"DeedError"})

    def test_made_by_position_and_by_name(self):
        for word, parameter in PARAMETERS.items():
            kind = getattr(errors, word)
            if parameter is None:
                self.assertIsInstance(kind(), DeedError)
                continue
            for thing in any_objects():
                self.assertIs(getattr(kind(thing), parameter), thing, word)
                self.assertIs(getattr(kind(**{parameter: thing}), parameter), thing, word)

    def test_what_they_were_made_with_is_not_copied_later_either(self):
        kept = ["a"]
        error = errors.BadTests(kept)
        kept.append("b")
        self.assertIs(error.thing, kept)
        self.assertEqual(error.thing, ["a", "b"])

    def test_kinds(self):
        self.assertTrue(issubclass(DeedError, ValueError))
        kinds = [getattr(errors, word) for word in PARAMETERS]
        for kind in kinds:
            self.assertTrue(issubclass(kind, DeedError))
            self.assertTrue(issubclass(kind, ValueError))
            self.assertEqual([other for other in kinds if issubclass(kind, other)], [kind])

    def test_they_can_be_raised_and_caught(self):
        for word, parameter in PARAMETERS.items():
            kind = getattr(errors, word)
            with self.assertRaises(ValueError) as caught:
                raise kind(*([] if parameter is None else [7]))
            self.assertIs(type(caught.exception), kind)
            str(caught.exception)
            repr(caught.exception)


if __name__ == "__main__":
    unittest.main()
