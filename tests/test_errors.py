"""[0.20]: all errors, what they are derived from and what they keep."""

import unittest

from risenets import errors

PLAIN = [
    "InvalidRise", "InvalidNet", "InvalidCurrents", "InvalidHeights", "InvalidState", "InvalidKinds", "InvalidBox",
    "InvalidFeed", "InvalidPlane", "InvalidTanks", "InvalidReadings", "InvalidText", "InvalidOperation",
]
KEEPING = [
    ("ParseError", "spot", errors.RiseError), ("InvalidNumber", "given", IndexError),
    ("UnknownName", "wanted", KeyError), ("TooMany", "limit", OverflowError),
    ("NothingToUndo", "done", LookupError), ("Refused", "reason", ArithmeticError),
]


class ErrorTests(unittest.TestCase):
    def test_base(self):
        self.assertEqual(errors.RiseError.__bases__, (ValueError,))
        self.assertEqual(str(errors.RiseError("told")), "told")

    def test_plain_errors_are_directly_derived_and_take_a_message(self):
        for name in PLAIN:
            error = getattr(errors, name)
            self.assertEqual(error.__bases__, (errors.RiseError,), name)
            self.assertEqual(str(error("a message")), "a message")

    def test_keeping_errors_keep_any_value(self):
        for name, attribute, base in KEEPING:
            error = getattr(errors, name)
            self.assertEqual(error.__bases__, (base,), name)
            for value in (0, -1, 10 ** 99, True, None, "word", ("surplus", 3), [1, [2]], {"a": 1}, error(2)):
                self.assertIs(getattr(error(value), attribute), value)
                self.assertIs(getattr(error(**{attribute: value}), attribute), value)

    def test_errors_are_caught_by_python_s_names(self):
        for name, attribute, base in KEEPING:
            with self.assertRaises(base) as caught:
                raise getattr(errors, name)(7)
            self.assertEqual(getattr(caught.exception, attribute), 7)

    def test_there_are_no_other_ones(self):
        named = {"RiseError"} | set(PLAIN) | {name for name, _, _ in KEEPING}
        self.assertEqual({name for name in vars(errors) if not name.startswith("_")}, named)


if __name__ == "__main__":
    unittest.main()
