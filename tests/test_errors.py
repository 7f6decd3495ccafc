"""Section 16, and what section 2 says of errors."""

import unittest

from likelights import errors
from tests.helpers import NO_KIND_OF_IT, Checks

NAMES = (
    "BadWeight BadPattern TooMany BadLines BadGrains BadPlace BadSize BadLot BadWeb BadLine "
    "OtherLines Wide BadMove OtherCount OtherSize BadRows BadSort NotLone BadTable BadCounter "
    "BadSeen BadCounts BadShares BadWebs BadWord BadProgram Nothing BadChange NotKept BadPrices "
    "BadShots Never BadPiece NothingToUndo NothingToRedo NoTrial BadJournal BadWords"
).split()

VALUES = NO_KIND_OF_IT + (0, 1, -1, 10 ** 40, "many words", (1, 2), ((0, 1), (2, 3)), (), ValueError("x"))


class Errors(Checks, unittest.TestCase):
    def test_light_error_is_a_value_error(self):
        self.assertEqual(errors.LightError.__bases__, (ValueError,))

    def test_all_stand_directly_below_light_error(self):
        for name in NAMES:
            with self.subTest(name):
                error = getattr(errors, name)
                self.assertEqual(error.__bases__, (errors.LightError,))
                self.assertTrue(issubclass(error, ValueError))
                self.assertEqual(error.__name__, name)
                self.assertEqual(error.__module__, "likelights.errors")

    def test_no_two_are_the_same(self):
        self.assertEqual(len({getattr(errors, name) for name in NAMES}), 38)

    def test_no_other_error_stands_there(self):
        found = [name for name in vars(errors) if not name.startswith("__")]
        self.assertEqual(sorted(found), sorted(NAMES + ["LightError"]))

    def test_each_keeps_its_only_argument(self):
        for name in NAMES + ["LightError"]:
            for value in VALUES:
                with self.subTest(name, value=value):
                    self.assertIs(getattr(errors, name)(value).value, value)

    def test_each_takes_just_one_argument(self):
        for name in NAMES + ["LightError"]:
            with self.subTest(name):
                self.assertRaises(TypeError, getattr(errors, name))
                self.assertRaises(TypeError, getattr(errors, name), 1, 2)

    def test_each_is_raised_and_caught_as_a_light_error(self):
        for name in NAMES + ["LightError"]:
            for kind in (errors.LightError, ValueError):
                with self.subTest(name, kind=kind):
                    with self.assertRaises(kind) as caught:
                        raise getattr(errors, name)([name])
                    self.same(caught.exception.value, [name])


if __name__ == "__main__":
    unittest.main()
