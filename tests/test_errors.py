"""The errors ([2] and the errors of the interface)."""

import unittest

from logfolds import errors
from tests.helpers import odd_values

WITH_PARAMETER = {
    "BadBook": "part", "NotClear": "row", "BadProgram": "part", "NoFold": "index", "NotNet": "row",
    "NoStep": "number", "TooLong": "length", "BadTable": "row", "BadMeaning": "part", "InvalidText": "place",
    "InvalidCommand": "line", "UnknownName": "name",
}
WITHOUT_PARAMETER = ("OtherBook", "NoLog", "NoRoad", "NothingThere", "NoBook")


class Errors(unittest.TestCase):

    def test_all_seventeen_are_there(self):
        names = {name for name, thing in vars(errors).items() if isinstance(thing, type)}
        self.assertEqual(names, {"FoldError", *WITH_PARAMETER, *WITHOUT_PARAMETER})
        self.assertEqual(len(names), 18)

    def test_base_classes(self):
        self.assertEqual(errors.FoldError.__bases__, (Exception,))
        for name in (*WITH_PARAMETER, *WITHOUT_PARAMETER):
            with self.subTest(name):
                kind = getattr(errors, name)
                self.assertEqual(kind.__bases__, (errors.FoldError,))
                self.assertEqual(kind.__mro__, (kind, errors.FoldError, Exception, BaseException, object))
                self.assertEqual(kind.__module__, "logfolds.errors")

    def test_parameters_are_attributes(self):
        for name, parameter in WITH_PARAMETER.items():
            kind = getattr(errors, name)
            for thing in odd_values():
                with self.subTest(name=name, thing=str(thing)[:40]):
                    self.assertIs(getattr(kind(thing), parameter), thing)
                    self.assertIs(getattr(kind(**{parameter: thing}), parameter), thing)

    def test_a_parameter_is_needed(self):
        for name in WITH_PARAMETER:
            with self.subTest(name), self.assertRaises(TypeError):
                getattr(errors, name)()

    def test_without_a_parameter(self):
        for name in WITHOUT_PARAMETER:
            with self.subTest(name), self.assertRaises(errors.FoldError) as caught:
                raise getattr(errors, name)()
            self.assertEqual(type(caught.exception).__name__, name)

    def test_an_error_is_caught_as_itself_alone(self):
        kinds = [getattr(errors, name) for name in (*WITH_PARAMETER, *WITHOUT_PARAMETER)]
        for name, parameter in WITH_PARAMETER.items():
            error = getattr(errors, name)(3)
            self.assertEqual([kind for kind in kinds if isinstance(error, kind)], [getattr(errors, name)])


if __name__ == "__main__":
    unittest.main()
