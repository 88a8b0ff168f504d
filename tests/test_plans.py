import copy
import random
import unittest

from likebook.books import barred, binding
from likebook.errors import NoSide
from likebook.plans import far, plan
from likebook.rulings import ruling
from kinds import (
    assert_refused, cases_of, is_bound_by, no_sides, opposed_pack, own_pack, rulings_of, some_pack,
    stand_against, whole_book,
)

TOP = 10 ** 30
FORS = {"a": 2, "b": 1}
AGAINSTS = {"b": 1, "c": 2}
CASES = cases_of(FORS, AGAINSTS)
A = (("a", 1),)
B = (("b", 1),)
C = (("c", 1),)
AB = (("a", 1), ("b", 1))


def told_plan(book, cases, target, side):
    """The document's words, apart from the program."""
    for k, one in enumerate(book):
        if one[1] == side and is_bound_by(one, target):
            return ("bound", k)
    why = []
    for j, case in enumerate(cases):
        mine, yours = dict(own_pack(case, side)), dict(own_pack(target, side))
        reason = tuple((name, min(mine[name], yours[name])) for name in sorted(mine) if name in yours)
        one = (case, side, reason)
        held = dict(opposed_pack(case, side))
        more = [name for name, amount in opposed_pack(target, side) if amount > held.get(name, 0)]
        bars = [k for k, other in enumerate(book) if stand_against(one, other)]
        if not more and not bars:
            return ("judge", j, one)
        why.append(("more", more[0]) if more else ("against", bars[0]))
    return ("none", why)


def distance(one, other):
    """The sum of all differences of degrees of two cases."""
    return sum(
        abs(dict(mine).get(name, 0) - dict(yours).get(name, 0))
        for mine, yours in zip(one, other) for name in set(dict(mine)) | set(dict(yours)))


def comes_to_be_bound(book, cases, target, side):
    """Whether some row of allowed rulings on the cases, of whatever sides and reasons, binds the target to the side."""
    seen, waiting = set(), [tuple(book)]
    rulings = [one for case in cases for one in rulings_of(case)]
    while waiting:
        grown = waiting.pop()
        if any(one[1] == side and is_bound_by(one, target) for one in grown):
            return True
        for one in rulings:
            if one not in grown and not any(stand_against(one, other) for other in grown):
                longer = grown + (one,)
                if frozenset(longer) not in seen:
                    seen.add(frozenset(longer))
                    waiting.append(longer)
    return False


class Plans(unittest.TestCase):
    def test_bound_already(self):
        book = [ruling((B, ()), "for", B), ruling((AB, C), "for", A), ruling((A, C), "for", A)]
        self.assertEqual(("bound", 1), plan(book, [], (A, C), "for"))
        self.assertEqual(("bound", 1), plan(book, [(A, C)], (A, C), "for"))
        self.assertEqual(("bound", 0), plan(book, CASES, (AB, ()), "for"))

    def test_one_is_to_be_judged(self):
        told = plan([], [((), C), (AB, C), (A, C)], (A, C), "for")
        self.assertEqual(("judge", 0, (((), C), "for", ())), told)
        self.assertEqual(("judge", 1, ((AB, C), "for", A)), plan([], [(A, ()), (AB, C)], (A, C), "for"))
        self.assertEqual(("judge", 0, ((A, (("c", 5),)), "against", (("c", 2),))),
                         plan([], [(A, (("c", 5),))], (A, (("c", 2),)), "against"))

    def test_the_least_case_that_will_do(self):
        book = [ruling((A, C), "against", C)]
        cases = [(B, ()), (A, C), (AB, C), (AB, (("c", 2),))]
        self.assertEqual(("judge", 2, ((AB, C), "for", AB)), plan(book, cases, (AB, C), "for"))
        self.assertEqual(("judge", 0, ((AB, C), "for", AB)), plan(book, cases[2:], (AB, C), "for"))

    def test_none(self):
        book = [ruling((A, C), "against", C), ruling((AB, ()), "against", ())]
        self.assertEqual(
            ("none", [("more", "c"), ("against", 0), ("against", 0)]),
            plan(book, [(A, ()), (A, C), (AB, C)], (A, C), "for"))
        self.assertEqual(("none", [("against", 1)]), plan([book[0], book[1]], [(AB, ())], (AB, ()), "for"))
        self.assertEqual(("none", []), plan(book, [], (A, C), "for"))
        self.assertEqual(("none", []), plan([], [], (A, C), "for"))

    def test_the_first_name_by_which_it_is_over(self):
        target = ((), (("a", 1), ("c", 2), ("d", 1)))
        self.assertEqual(
            ("none", [("more", "c"), ("more", "a"), ("more", "d")]),
            plan([], [((), (("a", 1), ("c", 1))), ((), ()), ((), (("a", 3), ("c", 2)))], target, "for"))

    def test_more_ahead_of_against(self):
        book = [ruling((A, ()), "against", ())]
        self.assertEqual(("none", [("more", "c")]), plan(book, [(A, ())], (A, C), "for"))

    def test_bound_to_the_other_side_none_will_do(self):
        book = [ruling((A, C), "against", C)]
        for case in CASES:
            self.assertEqual("none", plan(book, [case], (A, C), "for")[0])

    def test_a_name_that_stands_in_both_packs(self):
        target = ((("b", 2),), (("b", 1),))
        case = ((("b", 5),), (("b", 1),))
        self.assertEqual(("judge", 0, (case, "for", (("b", 2),))), plan([], [case], target, "for"))
        self.assertEqual(("none", [("more", "b")]), plan([], [((("b", 1),), (("b", 9),))], target, "against"))

    def test_degrees_of_the_top(self):
        target = ((("a", TOP),), (("c", TOP),))
        self.assertEqual(("none", [("more", "c")]), plan([], [((("a", TOP),), (("c", TOP - 1),))], target, "for"))
        self.assertEqual(("judge", 0, (target, "for", (("a", TOP),))), plan([], [target], target, "for"))

    def test_the_documents_words_for_books_by_chance(self):
        chance = random.Random(1)
        seen = {}
        for turn in range(400):
            book = whole_book(chance, 4, FORS, AGAINSTS)
            cases = [(some_pack(chance, FORS), some_pack(chance, AGAINSTS)) for case in range(chance.randint(0, 3))]
            target = (some_pack(chance, FORS), some_pack(chance, AGAINSTS))
            side = chance.choice(("for", "against"))
            told = plan(book, cases, target, side)
            self.assertEqual(told_plan(book, cases, target, side), told)
            seen[told[0]] = seen.get(told[0], 0) + 1
            if told[0] == "judge":
                self.assertIsNone(barred(book, told[2]))
                self.assertIsNone(binding(book, target))
                self.assertEqual((side, len(book)), binding(book + [told[2]], target))
        self.assertTrue(all(seen[kind] > 30 for kind in ("bound", "judge", "none")), seen)

    def test_where_none_is_told_no_row_of_allowed_rulings_does_it(self):
        chance = random.Random(2)
        fors, againsts = {"a": 1, "b": 1}, {"b": 1, "c": 1}
        nones = 0
        for turn in range(250):
            book = whole_book(chance, 3, fors, againsts)
            cases = [(some_pack(chance, fors), some_pack(chance, againsts)) for case in range(chance.randint(0, 2))]
            target = (some_pack(chance, fors), some_pack(chance, againsts))
            for side in ("for", "against"):
                told = plan(book, cases, target, side)
                self.assertIs(told[0] != "none", comes_to_be_bound(book, cases, target, side))
                nones += told[0] == "none" and len(cases) > 0
        self.assertLess(60, nones)

    def test_no_side_is_refused(self):
        for thing in no_sides():
            assert_refused(self, NoSide, plan, [], [], (A, C), thing)
            assert_refused(self, NoSide, plan, [ruling((A, C), "for", A)], [(A, C)], (A, C), thing)
            assert_refused(self, NoSide, plan, None, None, None, thing)


class Far(unittest.TestCase):
    def test_no_ruling_for_the_side(self):
        self.assertIsNone(far([], (A, C), "for"))
        self.assertIsNone(far([ruling((A, C), "against", C)] * 2, (A, C), "for"))

    def test_bound_already(self):
        book = [ruling((A, C), "for", A)]
        self.assertEqual((0, 0, (A, C)), far(book, (A, C), "for"))
        self.assertEqual((0, 0, (AB, ())), far(book, (AB, ()), "for"))

    def test_how_far(self):
        book = [ruling(((("a", 5),), C), "for", (("a", 5),)), ruling((AB, ()), "for", AB)]
        self.assertEqual((2, 1, (AB, ())), far(book, (A, C), "for"))
        self.assertEqual((3, 0, ((("a", 5),), C)), far(book, ((("a", 3),), (("c", 2),)), "for"))
        self.assertEqual((4, 0, ((("a", 5),), C)), far(book[:1], (A, C), "for"))

    def test_both_sides_of_the_sum(self):
        book = [ruling((A, (("b", 1), ("c", 1))), "against", (("b", 1), ("c", 1)))]
        case = ((("a", 4), ("d", 2)), (("c", 3),))
        self.assertEqual((6, 0, (A, (("b", 1), ("c", 3)))), far(book, case, "against"))

    def test_of_several_the_least_number(self):
        one, other = ruling((AB, C), "for", AB), ruling((AB, (("c", 2),)), "for", AB)
        self.assertEqual((1, 1, (AB, C)), far([ruling((A, C), "against", C), one, other], (A, C), "for"))
        self.assertEqual((1, 0, (AB, C)), far([other, one], (A, C), "for"))

    def test_degrees_of_the_top(self):
        book = [ruling(((("a", TOP), ("b", TOP)), ()), "for", (("a", TOP), ("b", TOP)))]
        self.assertEqual((3 * TOP, 0, ((("a", TOP), ("b", TOP)), ())), far(book, ((), (("c", TOP),)), "for"))

    def test_near_is_bound_and_no_case_that_is_lies_nearer(self):
        chance = random.Random(3)
        for turn in range(40):
            book = whole_book(chance, 4, FORS, AGAINSTS)
            for side in ("for", "against"):
                mine = [one for one in book if one[1] == side]
                for case in CASES[::3]:
                    told = far(book, case, side)
                    if not mine:
                        self.assertIsNone(told)
                        continue
                    amount, k, near = told
                    self.assertTrue(book[k][1] == side and is_bound_by(book[k], near))
                    self.assertEqual(side, binding(book, near)[0])
                    self.assertEqual(amount, distance(case, near))
                    nearest = [
                        min(distance(case, other) for other in CASES if is_bound_by(one, other)) for one in mine]
                    self.assertEqual(min(nearest), amount)
                    self.assertEqual(book.index(mine[nearest.index(min(nearest))]), book.index(book[k]))
                    self.assertIs(amount == 0, any(is_bound_by(one, case) for one in mine))

    def test_no_side_is_refused(self):
        for thing in no_sides():
            assert_refused(self, NoSide, far, [], (A, C), thing)
            assert_refused(self, NoSide, far, [ruling((A, C), "for", A)], (A, C), thing)
            assert_refused(self, NoSide, far, None, None, thing)


class HandedIn(unittest.TestCase):
    def test_nothing_is_changed_and_each_told_list_is_the_askers_own(self):
        book, cases = [ruling((A, C), "against", C)], [(A, C), (A, ())]
        before = copy.deepcopy((book, cases))
        first, second = [plan(book, cases, (A, C), "for") for turn in "ab"]
        first[1].append("more")
        first[1][0] = None
        self.assertEqual(second, plan(book, cases, (A, C), "for"))
        plan([], [], (A, C), "for")[1].append("more")
        self.assertEqual(("none", []), plan([], [], (A, C), "for"))
        far(book, (A, C), "against")
        self.assertEqual(before, (book, cases))

    def test_arguments_bear_the_told_names(self):
        self.assertEqual(("none", []), plan(book=[], cases=[], target=(A, C), side="for"))
        self.assertIsNone(far(book=[], case=(A, C), side="for"))

    def test_kinds(self):
        one = ruling((A, C), "for", A)
        for told in (plan([], [], (A, C), "for"), plan([], [(A, C)], (A, C), "for"), plan([one], [], (A, C), "for")):
            self.assertIs(tuple, type(told))
        self.assertIs(tuple, type(far([one], (A, C), "for")))


if __name__ == "__main__":
    unittest.main()
