"""The refusals' classes (the interface, walkrooms/errors.py)."""

import unittest

from walkrooms import errors
from walkrooms.errors import Again, NoHouse, NoName, NoRow, NoStep, NoText, Nothing, RoomError, TooMany

OF_TEXTS = (NoHouse, NoText, Nothing, Again, TooMany, NoRow, NoName)


class Refusals(unittest.TestCase):
    def test_room_error_is_right_under_value_error(self):
        self.assertEqual(RoomError.__bases__, (ValueError,))

    def test_each_is_right_under_room_error_and_under_no_other(self):
        for kind in OF_TEXTS + (NoStep,):
            with self.subTest(kind=kind.__name__):
                self.assertEqual(kind.__bases__, (RoomError,))

    def test_all_are_unlike_and_called_as_listed(self):
        self.assertEqual(len(set(OF_TEXTS + (NoStep, RoomError))), 9)
        for kind in OF_TEXTS + (NoStep, RoomError):
            self.assertIs(getattr(errors, kind.__name__), kind)
            self.assertEqual(kind.__module__, "walkrooms.errors")

    def test_each_is_caught_as_itself_room_error_and_value_error_alone(self):
        for kind in OF_TEXTS:
            for wanted in (kind, RoomError, ValueError):
                with self.assertRaises(wanted):
                    raise kind("some words")
            for other in OF_TEXTS + (NoStep,):
                self.assertEqual(isinstance(kind("some words"), other), kind is other)

    def test_room_error_is_made_of_a_text(self):
        self.assertIsInstance(RoomError("some words"), ValueError)
        self.assertNotIsInstance(RoomError("some words"), OF_TEXTS + (NoStep,))

    def test_no_step_is_made_of_its_field_at(self):
        for at in (0, 1, 7, 299):
            with self.assertRaises(NoStep) as caught:
                raise NoStep(at)
            self.assertEqual(caught.exception.at, at)
            self.assertIsInstance(caught.exception, RoomError)
            self.assertNotIsInstance(caught.exception, OF_TEXTS)

    def test_each_no_step_has_its_own_at(self):
        first = NoStep(3)
        second = NoStep(5)
        self.assertEqual((first.at, second.at), (3, 5))


if __name__ == "__main__":
    unittest.main()
