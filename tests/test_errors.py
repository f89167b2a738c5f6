"""[5]: the classes of errors."""

import unittest

from kindtwice import errors
from tests.helping import odd_objects

WITH_VALUE = (
    "InvalidTable", "InvalidKind", "InvalidKinds", "InvalidDeeds", "InvalidDeed", "InvalidTwice", "InvalidSetting",
    "InvalidLog", "InvalidLogs", "InvalidPlace", "InvalidCount", "InvalidRow", "InvalidTree", "InvalidMap",
    "InvalidMoves", "InvalidStore", "InvalidState", "InvalidMarks", "InvalidFalls", "InvalidDesk", "InvalidScript",
    "InvalidText", "InvalidRecord", "Unlike", "Endless", "Refused",
)
OF_NOTHING = ("NothingToUndo", "NothingToRedo")


class Classes(unittest.TestCase):
    def test_all_stand_in_the_module(self):
        for name in ("TwiceError",) + WITH_VALUE + OF_NOTHING:
            made = getattr(errors, name)
            self.assertEqual((made.__name__, made.__module__), (name, "kindtwice.errors"))

    def test_twice_error_is_a_value_error(self):
        self.assertTrue(issubclass(errors.TwiceError, ValueError))

    def test_each_is_derived_from_twice_error_and_from_no_other(self):
        for name in WITH_VALUE + OF_NOTHING:
            made = getattr(errors, name)
            self.assertTrue(issubclass(made, errors.TwiceError))
            self.assertTrue(issubclass(made, ValueError))
            for other in WITH_VALUE + OF_NOTHING:
                self.assertEqual(issubclass(made, getattr(errors, other)), name == other, (name, other))

    def test_each_is_caught_by_its_own_name_alone(self):
        for name in WITH_VALUE + OF_NOTHING:
            made = getattr(errors, name)
            for other in WITH_VALUE + OF_NOTHING:
                caught = "TwiceError"
                try:
                    raise made()
                except getattr(errors, other):
                    caught = other
                except errors.TwiceError:
                    pass
                self.assertEqual(caught == other, name == other)


class Fields(unittest.TestCase):
    def test_by_position_by_name_and_without(self):
        for name in WITH_VALUE:
            made = getattr(errors, name)
            self.assertIs(made().value, None)
            for value in odd_objects():
                self.assertIs(made(value).value, value)
                self.assertIs(made(value=value).value, value)

    def test_the_field_is_the_object_and_no_copy(self):
        for name in WITH_VALUE:
            value = [["a"], {"b": []}]
            error = getattr(errors, name)(value)
            value[0].append("c")
            self.assertIs(error.value, value)
            self.assertEqual(error.value, [["a", "c"], {"b": []}])

    def test_objects_do_not_share_their_fields(self):
        for name in WITH_VALUE:
            made = getattr(errors, name)
            one, other, third = made(1), made(value=2), made()
            self.assertEqual((one.value, other.value, third.value), (1, 2, None))

    def test_raised_they_keep_the_object(self):
        for name in WITH_VALUE:
            made = getattr(errors, name)
            value = ["a"]
            with self.assertRaises(errors.TwiceError) as caught:
                raise made(value)
            self.assertIs(caught.exception.value, value)

    def test_made_of_nothing(self):
        for name in ("TwiceError",) + OF_NOTHING:
            made = getattr(errors, name)
            self.assertFalse(hasattr(made(), "value"))
            with self.assertRaises(made):
                raise made()
            with self.assertRaises(TypeError):
                made(1)


if __name__ == "__main__":
    unittest.main()
