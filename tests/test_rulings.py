import itertools
import unittest

from likebook.errors import NoReason, NoSide
from likebook.rulings import against, apart, binds, ruling
from kinds import (
    assert_refused, cases_of, is_bound_by, is_within, no_sides, opposed_pack, own_pack, packs_of, rulings_of,
    stand_against,
)

TOP = 10 ** 30
CASE = ((("armed", 3), ("late", 1)), (("hurt", 2), ("late", 5)))
# A name of both packs, and one of each alone.
SMALL = cases_of({"a": 1, "b": 1}, {"b": 1, "c": 1})
DEEPER = cases_of({"a": 2}, {"a": 2})


def small_rulings():
    return [one for case in SMALL for one in rulings_of(case)]


def deeper_rulings():
    return [one for case in DEEPER for one in rulings_of(case)]


class Made(unittest.TestCase):
    def test_a_ruling_is_a_tuple_of_case_side_and_reason(self):
        told = ruling(CASE, "for", (("armed", 2),))
        self.assertEqual((CASE, "for", (("armed", 2),)), told)
        self.assertIs(tuple, type(told))
        self.assertEqual((CASE, "against", CASE[1]), ruling(CASE, "against", CASE[1]))

    def test_the_reason_may_be_the_empty_pack(self):
        for case in (CASE, ((), ()), ((), CASE[1]), (CASE[0], ())):
            for side in ("for", "against"):
                self.assertEqual((case, side, ()), ruling(case, side, ()))

    def test_every_small_reason(self):
        for case in SMALL + DEEPER:
            for side in ("for", "against"):
                for reason in packs_of({"a": 3, "b": 2, "c": 1}):
                    if is_within(reason, own_pack(case, side)):
                        self.assertEqual((case, side, reason), ruling(case, side, reason))
                    else:
                        assert_refused(self, NoReason, ruling, case, side, reason)

    def test_a_reason_of_the_other_side_is_not_within(self):
        assert_refused(self, NoReason, ruling, CASE, "for", (("hurt", 1),))
        assert_refused(self, NoReason, ruling, CASE, "against", (("armed", 1),))

    def test_a_name_that_stands_in_both_packs(self):
        self.assertEqual((CASE, "against", (("late", 5),)), ruling(CASE, "against", (("late", 5),)))
        assert_refused(self, NoReason, ruling, CASE, "for", (("late", 2),))

    def test_the_ends_of_degrees(self):
        for amount in (1, TOP - 1, TOP):
            case = ((("late", amount),), ())
            self.assertEqual((case, "for", (("late", amount),)), ruling(case, "for", (("late", amount),)))
            assert_refused(self, NoReason, ruling, case, "for", (("late", amount + 1),))
            assert_refused(self, NoReason, ruling, case, "against", (("late", 1),))

    def test_no_side_is_refused(self):
        for thing in no_sides():
            assert_refused(self, NoSide, ruling, CASE, thing, ())

    def test_no_side_is_refused_ahead_of_no_reason_and_all_else(self):
        for thing in no_sides():
            assert_refused(self, NoSide, ruling, CASE, thing, (("else", 1),))
            assert_refused(self, NoSide, ruling, None, thing, None)

    def test_arguments_bear_the_told_names(self):
        one = ruling(case=CASE, side="for", reason=())
        self.assertIs(True, binds(one=one, case=CASE))
        self.assertEqual([], apart(one=one, case=CASE))
        self.assertIs(False, against(one=one, other=one))


class Binding(unittest.TestCase):
    def test_a_ruling_binds_its_own_case(self):
        for one in small_rulings() + deeper_rulings():
            self.assertIs(True, binds(one, one[0]))
            self.assertEqual([], apart(one, one[0]))

    def test_the_documents_words_for_all_small_rulings_and_cases(self):
        for rulings, cases in ((small_rulings(), SMALL), (deeper_rulings(), DEEPER)):
            for one in rulings:
                for case in cases:
                    self.assertIs(is_bound_by(one, case), binds(one, case))

    def test_as_much_of_the_reason_and_no_more_against(self):
        one = ruling(CASE, "for", (("armed", 2),))
        self.assertIs(True, binds(one, ((("armed", 2),), ())))
        self.assertIs(True, binds(one, ((("armed", 9), ("poor", 1)), (("late", 5),))))
        self.assertIs(False, binds(one, ((("armed", 1),), ())))
        self.assertIs(False, binds(one, ((("armed", 2),), (("hurt", 3),))))
        self.assertIs(False, binds(one, ((("armed", 2),), (("poor", 1),))))

    def test_the_empty_reason_binds_all_where_no_more_speaks_against(self):
        one = ruling(CASE, "against", ())
        self.assertIs(True, binds(one, ((), ())))
        self.assertIs(True, binds(one, (CASE[0], ())))
        self.assertIs(False, binds(one, ((("armed", 4),), CASE[1])))

    def test_degrees_of_the_top(self):
        one = ruling(((("late", TOP),), (("hurt", TOP - 1),)), "for", (("late", TOP),))
        self.assertIs(True, binds(one, ((("late", TOP),), (("hurt", TOP - 1),))))
        self.assertIs(False, binds(one, ((("late", TOP - 1),), ())))
        self.assertIs(False, binds(one, ((("late", TOP),), (("hurt", TOP),))))


class Apart(unittest.TestCase):
    def test_less_comes_ahead_of_more_both_in_order(self):
        one = ruling(((("a", 2), ("b", 2), ("z", 1)), (("m", 1),)), "for", (("a", 2), ("b", 1), ("z", 1)))
        case = ((("a", 1), ("b", 1)), (("aa", 1), ("m", 2), ("y", 3)))
        self.assertEqual([("less", "a"), ("less", "z"), ("more", "aa"), ("more", "m"), ("more", "y")], apart(one, case))

    def test_of_a_ruling_against(self):
        one = ruling(CASE, "against", (("hurt", 2), ("late", 5)))
        case = ((("armed", 4), ("poor", 1)), (("late", 4),))
        self.assertEqual([("less", "hurt"), ("less", "late"), ("more", "armed"), ("more", "poor")], apart(one, case))

    def test_a_name_of_both_packs_may_come_twice(self):
        one = ruling(((("late", 2),), (("late", 1),)), "for", (("late", 2),))
        self.assertEqual([("less", "late"), ("more", "late")], apart(one, ((("late", 1),), (("late", 2),))))

    def test_what_the_reason_does_not_tell_does_not_count(self):
        one = ruling(CASE, "for", ())
        self.assertEqual([], apart(one, ((), ())))
        self.assertEqual([("more", "poor")], apart(one, ((), (("poor", 1),))))

    def test_the_documents_words_for_all_small_rulings_and_cases(self):
        for rulings, cases in ((small_rulings(), SMALL), (deeper_rulings(), DEEPER)):
            for one in rulings:
                for case in cases:
                    side = one[1]
                    mine, yours = dict(own_pack(case, side)), dict(opposed_pack(one[0], side))
                    less = [("less", name) for name, amount in one[2] if amount > mine.get(name, 0)]
                    more = [("more", name) for name, amount in opposed_pack(case, side) if amount > yours.get(name, 0)]
                    told = apart(one, case)
                    self.assertEqual(less + more, told)
                    self.assertIs(told == [], binds(one, case))

    def test_a_told_list_is_the_askers_own(self):
        one = ruling(CASE, "for", CASE[0])
        for case in (CASE, ((), ())):
            first = apart(one, case)
            second = apart(one, case)
            first.append(("less", "poor"))
            first[0] = None
            self.assertEqual(second, apart(one, case))
            self.assertNotEqual(first, second)


class Against(unittest.TestCase):
    def test_the_documents_words_for_all_small_rulings(self):
        for rulings in (small_rulings(), deeper_rulings()):
            for one in rulings:
                for other in rulings:
                    self.assertIs(stand_against(one, other), against(one, other))

    def test_each_reason_must_be_within(self):
        case = ((("a", 2),), (("b", 2),))
        one = ruling(case, "for", (("a", 2),))
        self.assertIs(True, against(one, ruling(case, "against", (("b", 2),))))
        self.assertIs(True, against(one, ruling(case, "against", ())))
        self.assertIs(False, against(one, ruling(((("a", 1),), (("b", 2),)), "against", (("b", 1),))))
        self.assertIs(False, against(one, ruling(((("a", 2),), (("b", 3),)), "against", (("b", 3),))))
        self.assertIs(True, against(one, ruling(((("a", 9),), (("b", 3),)), "against", (("b", 2),))))

    def test_equal_sides_never_do(self):
        for one in deeper_rulings():
            self.assertIs(False, against(one, one))
            for other in deeper_rulings():
                if one[1] == other[1]:
                    self.assertIs(False, against(one, other))

    def test_two_that_bind_one_case_to_unlike_sides_stand_against_each_other(self):
        for one, other in itertools.product(small_rulings(), repeat=2):
            if one[1] != other[1] and any(binds(one, case) and binds(other, case) for case in SMALL):
                self.assertIs(True, against(one, other))
                self.assertIs(True, against(other, one))

    def test_degrees_of_the_top(self):
        case = ((("late", TOP),), (("late", TOP),))
        below = ((("late", TOP - 1),), (("late", TOP),))
        one = ruling(case, "for", (("late", TOP),))
        self.assertIs(True, against(one, ruling(case, "against", (("late", TOP),))))
        self.assertIs(False, against(one, ruling(below, "against", ())))


if __name__ == "__main__":
    unittest.main()
