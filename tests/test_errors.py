"""The errors: from what they are derived, and what they keep."""

import unittest

from holdsfast import errors
from tests.helpers import ODD_VALUES, same

KEEPERS = (
    (errors.ParseError, "line"), (errors.UnknownPlace, "place"), (errors.InvalidNumber, "value"),
    (errors.TooMany, "limit"), (errors.NothingToUndo, "many"), (errors.Refused, "reason"),
)
NET_ERRORS = (errors.InvalidNet, errors.InvalidLot, errors.InvalidParting, errors.InvalidOperation)


class TestErrors(unittest.TestCase):
    def test_direct_bases(self):
        bases = {
            errors.NetError: ValueError, errors.InvalidNet: errors.NetError, errors.InvalidLot: errors.NetError,
            errors.InvalidParting: errors.NetError, errors.InvalidOperation: errors.NetError,
            errors.ParseError: errors.NetError, errors.UnknownPlace: KeyError,
            errors.InvalidNumber: ArithmeticError, errors.TooMany: OverflowError,
            errors.NothingToUndo: IndexError, errors.Refused: RuntimeError,
        }
        for error, base in bases.items():
            self.assertEqual(error.__bases__, (base,), error)
            self.assertEqual(error.__module__, "holdsfast.errors")

    def test_five_are_no_net_errors(self):
        for error in (errors.UnknownPlace, errors.InvalidNumber, errors.TooMany, errors.NothingToUndo, errors.Refused):
            self.assertFalse(issubclass(error, errors.NetError))

    def test_what_is_kept(self):
        values = ODD_VALUES + (10 ** 6000, "x" * 10 ** 5, list(range(1000)))
        for error, name in KEEPERS:
            for value in values:
                made = error(value)
                self.assertTrue(same(getattr(made, name), value), (error, name))
                self.assertIsInstance(str(made), str)
                with self.assertRaises(error) as caught:
                    raise made
                self.assertIs(caught.exception, made)

    def test_keepers_by_keyword_and_none(self):
        for error, name in KEEPERS:
            self.assertEqual(getattr(error(**{name: 5}), name), 5)
            with self.assertRaises(TypeError):
                error()

    def test_net_errors_take_one_or_none(self):
        for error in (errors.NetError,) + NET_ERRORS:
            self.assertIsInstance(error(), error)
            for value in ODD_VALUES + (10 ** 6000,):
                self.assertIsInstance(error(value), error)


if __name__ == "__main__":
    unittest.main()
