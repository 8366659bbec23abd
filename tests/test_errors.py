"""[1.1] and [1.2]: the errors."""

import unittest

from whatcounts import errors

PLAIN = ["InvalidName", "InvalidLetters", "InvalidText", "InvalidPattern", "InvalidWord", "InvalidSum", "InvalidTally",
         "InvalidReader", "InvalidGroup", "InvalidTable", "InvalidProgram", "InvalidOperation"]
OTHERS = {"InvalidNumber": (IndexError, ("value",)), "UnknownName": (KeyError, ("name",)),
          "TooMany": (OverflowError, ("limit",)), "NothingToUndo": (LookupError, ("many",)),
          "NotTrue": (ArithmeticError, ("one", "other")), "NotTurning": (RuntimeError, ("letter",))}


class ErrorsTest(unittest.TestCase):
    def test_count_error(self):
        self.assertEqual(errors.CountError.__bases__, (ValueError,))

    def test_errors_that_take_a_message(self):
        for name in PLAIN:
            error = getattr(errors, name)
            self.assertEqual(error.__bases__, (errors.CountError,), name)
            self.assertEqual(str(error("told")), "told")

    def test_parse_error(self):
        self.assertEqual(errors.ParseError.__bases__, (errors.CountError,))
        self.assertEqual(errors.ParseError(7).index, 7)

    def test_errors_that_keep_something(self):
        for name, (base, kept) in OTHERS.items():
            error = getattr(errors, name)
            self.assertEqual(error.__bases__, (base,), name)
            self.assertFalse(issubclass(error, errors.CountError), name)
            values = [("some", number) for number in range(len(kept))]
            told = error(*values)
            for attribute, value in zip(kept, values):
                self.assertIs(getattr(told, attribute), value)

    def test_str_is_repr_of_what_is_kept(self):
        for error in (errors.InvalidNumber, errors.UnknownName):
            for value in (7, -10 ** 250, "one", "it's", "", None, True, (1, "a"), [2], {"a": 1}):
                self.assertEqual(str(error(value)), repr(value))

    def test_each_class_is_defined_there(self):
        for name in [*PLAIN, *OTHERS, "CountError", "ParseError"]:
            self.assertEqual(getattr(errors, name).__module__, "whatcounts.errors")
