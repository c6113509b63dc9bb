"""Point 4: the errors."""

import unittest

from staysdeep import errors
from staysdeep.errors import (
    InvalidCommand, InvalidMove, InvalidOrder, InvalidPlan, InvalidSize, InvalidStanding, InvalidText,
    InvalidTimetable, InvalidYard, NoName, Refused, YardError,
)
from tests.helpers import any_values

WITH_AT = (InvalidYard, InvalidStanding, InvalidMove, InvalidTimetable, InvalidPlan, InvalidText, InvalidOrder)
WITH_WORD = (InvalidSize, Refused)


class TestErrors(unittest.TestCase):

    def test_bases(self):
        self.assertEqual(YardError.__bases__, (Exception,))
        for error in WITH_AT + WITH_WORD + (InvalidCommand,):
            self.assertEqual(error.__bases__, (YardError,), error)
        self.assertEqual(NoName.__bases__, (KeyError,))
        self.assertFalse(issubclass(NoName, YardError))

    def test_twelve_errors_are_defined_here(self):
        defined = [value for value in vars(errors).values() if isinstance(value, type)]
        self.assertEqual(len(defined), 12)
        self.assertEqual({value.__module__ for value in defined}, {"staysdeep.errors"})

    def test_arguments_are_kept_themselves(self):
        for value in any_values() + [object(), {"a": 1}]:
            for error in WITH_AT:
                self.assertIs(error(value).at, value)
                self.assertIs(error(at=value).at, value)
            for error in WITH_WORD:
                self.assertIs(error(value).word, value)
                self.assertIs(error(word=value).word, value)
            self.assertIs(NoName(value).name, value)
            self.assertIs(NoName(name=value).name, value)

    def test_kept_lists_change_with_their_owner(self):
        kept = [1]
        error = InvalidYard(kept)
        kept.append(2)
        self.assertEqual(error.at, [1, 2])

    def test_no_argument(self):
        self.assertIsInstance(InvalidCommand(), YardError)
        self.assertIsInstance(YardError(), Exception)

    def test_caught_by_their_bases(self):
        for error in WITH_AT + WITH_WORD:
            with self.assertRaises(YardError):
                raise error("a")
        with self.assertRaises(KeyError):
            raise NoName("a")


if __name__ == "__main__":
    unittest.main()
