"""The errors of the interface: [0.27]."""

import unittest

from sidesigns import errors

PLAIN = ("InvalidRow", "InvalidLot", "InvalidTable", "InvalidSystem", "InvalidPainting", "InvalidWeb",
         "InvalidProgram", "InvalidOrder", "InvalidOperation")
KEEPING = (
    ("ParseError", "index", errors.SignsError), ("InvalidNumber", "value", IndexError), ("UnknownName", "name", KeyError),
    ("TooMany", "limit", OverflowError), ("Refused", "reason", ArithmeticError), ("NothingToUndo", "times", LookupError),
)
VALUES = (None, True, 0, -5, 10 ** 99, "", "word", (), ("row",), [1], {"a": 1})


class ErrorsTest(unittest.TestCase):
    def test_bases(self):
        self.assertEqual(errors.SignsError.__bases__, (ValueError,))
        for name in PLAIN + ("ParseError",):
            self.assertEqual(getattr(errors, name).__bases__, (errors.SignsError,), name)
        for name, _, base in KEEPING:
            self.assertEqual(getattr(errors, name).__bases__, (base,), name)

    def test_not_from_one_another(self):
        names = PLAIN + tuple(name for name, _, _ in KEEPING)
        for one in names:
            for other in names:
                if one != other:
                    self.assertFalse(issubclass(getattr(errors, one), getattr(errors, other)), (one, other))

    def test_kept_values(self):
        for name, attribute, _ in KEEPING:
            for value in VALUES:
                self.assertIs(getattr(getattr(errors, name)(value), attribute), value)

    def test_kept_values_when_raised(self):
        for name, attribute, base in KEEPING:
            with self.assertRaises(base) as caught:
                raise getattr(errors, name)("told")
            self.assertEqual(getattr(caught.exception, attribute), "told")

    def test_messages(self):
        for name in PLAIN + ("SignsError",):
            self.assertEqual(str(getattr(errors, name)("a message")), "a message")

    def test_each_takes_one_argument(self):
        for name, _, _ in KEEPING:
            with self.assertRaises(TypeError):
                getattr(errors, name)()
            with self.assertRaises(TypeError):
                getattr(errors, name)(1, 2)

    def test_defined_in_this_module(self):
        for name in PLAIN + ("SignsError",) + tuple(name for name, _, _ in KEEPING):
            self.assertEqual(getattr(errors, name).__module__, "sidesigns.errors")


if __name__ == "__main__":
    unittest.main()
