"""The classes of errors: how they are made, what they keep, of which classes they are."""
import inspect
import unittest

from helper import STRANGE

from onefilling import errors

GIVEN = ("InvalidKind", "InvalidSheet", "InvalidPuzzle", "InvalidFilling", "InvalidLot", "InvalidStrike",
         "InvalidNumber", "InvalidName", "InvalidTurn", "InvalidMove", "Alike")
INDEX = ("InvalidRow", "InvalidMoves", "InvalidOrder", "InvalidBook", "InvalidLots", "InvalidCommands")
ATTRIBUTES = {**{name: "given" for name in GIVEN}, **{name: "index" for name in INDEX}, "InvalidText": "line"}
ALL = ("FillingError", "NotOne", *ATTRIBUTES)
KEPT = STRANGE + (10 ** 400, [1, [2]], {"a": [1]}, ValueError("x"))


class Errors(unittest.TestCase):
    def test_all_are_there_and_defined_there(self):
        for name in ALL:
            made = getattr(errors, name)
            self.assertTrue(inspect.isclass(made))
            self.assertEqual(made.__module__, "onefilling.errors")
        defined = [name for name, value in vars(errors).items() if inspect.isclass(value)]
        self.assertEqual(sorted(defined), sorted(ALL))

    def test_an_attribute_by_position_is_kept_as_it_is(self):
        for name, attribute in ATTRIBUTES.items():
            for value in KEPT:
                error = getattr(errors, name)(value)
                self.assertIs(getattr(error, attribute), value)
                self.assertEqual(list(vars(error)), [attribute])

    def test_an_attribute_by_name_is_kept_as_it_is(self):
        for name, attribute in ATTRIBUTES.items():
            for value in KEPT:
                error = getattr(errors, name)(**{attribute: value})
                self.assertIs(getattr(error, attribute), value)
                self.assertEqual(list(vars(error)), [attribute])

    def test_an_attribute_is_asked_for_and_just_one(self):
        for name, attribute in ATTRIBUTES.items():
            made = getattr(errors, name)
            self.assertIn("__init__", vars(made))
            self.assertRaises(TypeError, made)
            self.assertRaises(TypeError, made, 1, 2)
            self.assertRaises(TypeError, made, other=1)

    def test_those_without_attributes(self):
        for name in ("FillingError", "NotOne"):
            self.assertEqual(vars(getattr(errors, name)()), {})

    def test_each_stands_under_one_class_alone(self):
        self.assertEqual(errors.FillingError.__bases__, (ValueError,))
        for name in ALL[1:]:
            made = getattr(errors, name)
            self.assertEqual(made.__bases__, (errors.FillingError,))
            others = [getattr(errors, other) for other in ALL[1:] if other != name]
            self.assertFalse(any(issubclass(made, other) for other in others))

    def test_of_pythons_own_each_is_a_value_error_and_none_of_the_others(self):
        for name in ALL:
            made = getattr(errors, name)
            self.assertTrue(issubclass(made, ValueError))
            for other in (TypeError, LookupError, ArithmeticError, RuntimeError, AttributeError, UnicodeError, OSError):
                self.assertFalse(issubclass(made, other))

    def test_they_are_raised_and_caught(self):
        for name in ALL[1:]:
            made = getattr(errors, name)
            for caught in (made, errors.FillingError, ValueError):
                with self.assertRaises(caught):
                    raise made(3) if name in ATTRIBUTES else made()


if __name__ == "__main__":
    unittest.main()
