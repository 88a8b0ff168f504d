import unittest

from likebook.cases import other_side, side_of
from likebook.errors import NoSide
from kinds import assert_refused, no_sides

CASE = ((("armed", 3), ("late", 1)), (("hurt", 2), ("late", 5)))


class Sides(unittest.TestCase):
    def test_each_is_the_others_other_side(self):
        self.assertEqual("against", other_side("for"))
        self.assertEqual("for", other_side("against"))
        for side in ("for", "against"):
            self.assertEqual(side, other_side(other_side(side)))

    def test_a_cases_pack_of_a_side(self):
        self.assertEqual((("armed", 3), ("late", 1)), side_of(CASE, "for"))
        self.assertEqual((("hurt", 2), ("late", 5)), side_of(CASE, "against"))
        self.assertEqual((), side_of(((), (("late", 1),)), "for"))
        self.assertEqual((), side_of(((("late", 1),), ()), "against"))

    def test_no_side_is_refused(self):
        for thing in no_sides():
            assert_refused(self, NoSide, other_side, thing)
            assert_refused(self, NoSide, side_of, CASE, thing)

    def test_no_side_is_refused_ahead_of_all_else(self):
        for thing in no_sides():
            assert_refused(self, NoSide, side_of, None, thing)

    def test_arguments_bear_the_told_names(self):
        self.assertEqual("against", other_side(side="for"))
        self.assertEqual(CASE[1], side_of(case=CASE, side="against"))


if __name__ == "__main__":
    unittest.main()
