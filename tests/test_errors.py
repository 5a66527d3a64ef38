"""The errors of the interface and point 0.2 of them."""

import unittest

from gatewarden import errors

NAMES = [
    "BadText", "Malformed", "NoPlace", "BadBook", "BadExchange", "NoTalk", "BadOrder", "Unlike", "TooMany", "TooLong",
    "BadLine", "BadWord", "Unknown", "InUse", "Taken", "Full", "NothingToUndo", "NoWay",
]


class Errors(unittest.TestCase):
    def test_base(self):
        self.assertEqual(errors.GateError.__bases__, (ValueError,))

    def test_each_is_directly_below_the_base(self):
        for name in NAMES:
            kind = getattr(errors, name)
            self.assertEqual(kind.__bases__, (errors.GateError,), name)
            self.assertEqual(kind.__name__, name)

    def test_there_are_no_others(self):
        found = {name for name, kind in vars(errors).items() if isinstance(kind, type)}
        self.assertEqual(found, set(NAMES) | {"GateError"})

    def test_fields(self):
        self.assertEqual(errors.Malformed("short").reason, "short")
        self.assertEqual(errors.BadLine(7).line, 7)

    def test_raised_and_caught(self):
        for name in NAMES:
            with self.assertRaises(errors.GateError):
                raise getattr(errors, name)(3)


if __name__ == "__main__":
    unittest.main()
