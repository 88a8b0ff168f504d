import unittest

from likebook import errors
from kinds import REFUSALS


class Errors(unittest.TestCase):
    def test_any_refusal_is_a_value_error(self):
        self.assertEqual((ValueError,), errors.BookError.__bases__)

    def test_all_stand_straight_under_book_error(self):
        for kind in REFUSALS:
            self.assertEqual((errors.BookError,), kind.__bases__, kind)

    def test_none_stands_under_another(self):
        for kind in REFUSALS:
            self.assertEqual([kind], [one for one in REFUSALS if issubclass(kind, one)])

    def test_there_are_no_others(self):
        told = [thing for thing in vars(errors).values() if isinstance(thing, type)]
        self.assertEqual({errors.BookError, *REFUSALS}, set(told))

    def test_fields(self):
        self.assertEqual(7, errors.NotAllowed(7).by)
        self.assertEqual(7, errors.NotAllowed(by=7).by)
        self.assertEqual(0, errors.NoRow(0).row)
        self.assertEqual(24, errors.NoRow(row=24).row)
        self.assertEqual("late", errors.Twice("late").name)
        self.assertEqual("late", errors.Twice(name="late").name)
        self.assertEqual("cruel", errors.Unknown("cruel").name)
        self.assertEqual("cruel", errors.Unknown(name="cruel").name)

    def test_a_field_is_each_object_s_own(self):
        one = errors.NotAllowed(1)
        other = errors.NotAllowed(2)
        self.assertEqual((1, 2), (one.by, other.by))

    def test_each_can_be_raised(self):
        fielded = (errors.NotAllowed, errors.NoRow, errors.Twice, errors.Unknown)
        for kind in REFUSALS:
            with self.assertRaises(kind):
                raise kind(1) if kind in fielded else kind()


if __name__ == "__main__":
    unittest.main()
