import unittest

from wholefloors import errors

NAMES = """InvalidKind InvalidNumber InvalidPoint InvalidPlace InvalidPolygon InvalidFloor InvalidRadius InvalidBox
InvalidPatch InvalidPair NoPatch NotInFloor DividedByZero InvalidMatrix InvalidUnit InvalidRule InvalidRow
InvalidMember InvalidWord InvalidName NoWord NotWithin UnknownName WrongKind NothingToUndo Unreadable Unorderly
InvalidRegion InvalidSaying NotTold""".split()


class ErrorsTest(unittest.TestCase):
    def test_all_are_there_each_below_the_one(self):
        self.assertEqual(errors.FloorError.__bases__, (ValueError,))
        for name in NAMES:
            with self.subTest(name=name):
                self.assertEqual(getattr(errors, name).__bases__, (errors.FloorError,))
                self.assertEqual(getattr(errors, name).__module__, "wholefloors.errors")

    def test_each_has_its_value_by_position_and_by_name(self):
        for name in NAMES + ["FloorError"]:
            for value in (0, -3, "text", None, (1, (2, 3)), [1], True):
                with self.subTest(name=name, value=value):
                    made = getattr(errors, name)
                    self.assertIs(made(value).value, value)
                    self.assertIs(made(value=value).value, value)

    def test_each_takes_just_one_argument(self):
        for name in NAMES + ["FloorError"]:
            made = getattr(errors, name)
            with self.subTest(name=name):
                self.assertRaises(TypeError, made)
                self.assertRaises(TypeError, made, 1, 2)
                self.assertRaises(TypeError, lambda: made(told=1))

    def test_each_is_caught_as_the_one(self):
        for name in NAMES:
            with self.assertRaises(errors.FloorError) as caught:
                raise getattr(errors, name)(7)
            self.assertEqual(caught.exception.value, 7)


if __name__ == "__main__":
    unittest.main()
