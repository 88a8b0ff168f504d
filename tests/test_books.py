import copy
import random
import unittest

from likebook.books import barred, binding, fullest, torn
from likebook.errors import NoSide
from likebook.rulings import ruling
from kinds import (
    assert_refused, cases_of, is_bound_by, no_sides, own_pack, rulings_of, some_ruling, stand_against, whole_book,
)

TOP = 10 ** 30
FORS = {"a": 2, "b": 1}
AGAINSTS = {"b": 1, "c": 2}
CASES = cases_of(FORS, AGAINSTS)
A = (("a", 1),)
C = (("c", 1),)
PRO = ruling((A, C), "for", A)
CONTRA = ruling((A, C), "against", C)
FAR = ruling(((("x", 1),), (("y", 1),)), "against", (("y", 1),))


def some_books(number, length):
    chance = random.Random(1)
    return [whole_book(chance, length, FORS, AGAINSTS) for turn in range(number)]


class Torn(unittest.TestCase):
    def test_the_empty_book_and_a_book_of_one_are_whole(self):
        self.assertIsNone(torn([]))
        for one in (PRO, CONTRA, FAR):
            self.assertIsNone(torn([one]))

    def test_equal_rulings_are_whole(self):
        self.assertIsNone(torn([PRO, PRO, PRO]))

    def test_two_against_each_other(self):
        self.assertEqual((0, 1), torn([PRO, CONTRA]))
        self.assertEqual((0, 1), torn([CONTRA, PRO]))
        self.assertEqual((0, 2), torn([PRO, FAR, CONTRA]))

    def test_least_j_then_least_k(self):
        self.assertEqual((1, 2), torn([FAR, PRO, CONTRA, PRO]))
        self.assertEqual((0, 2), torn([PRO, PRO, CONTRA, CONTRA]))
        other = ruling(((("x", 1),), (("y", 1),)), "for", ())
        # The pair (0, 3) has the lesser k, but (1, 2) the lesser j.
        self.assertEqual((1, 2), torn([FAR, PRO, CONTRA, other]))
        self.assertEqual((0, 1), torn([FAR, other, PRO, CONTRA]))

    def test_the_documents_words_for_books_by_chance(self):
        chance = random.Random(2)
        told = []
        for turn in range(300):
            book = [some_ruling(chance, FORS, AGAINSTS) for length in range(chance.randint(0, 7))]
            pairs = [
                (j, k) for j in range(len(book)) for k in range(j) if stand_against(book[k], book[j])]
            told.append(torn(book))
            self.assertEqual((min(pairs)[1], min(pairs)[0]) if pairs else None, told[-1])
        self.assertLess(50, sum(one is None for one in told))
        self.assertLess(50, sum(one is not None for one in told))

    def test_grown_by_allowed_rulings_alone_a_book_stays_whole(self):
        chance = random.Random(3)
        for turn in range(20):
            book = []
            for step in range(60):
                one = some_ruling(chance, FORS, AGAINSTS)
                if barred(book, one) is None:
                    book.append(one)
            self.assertIsNone(torn(book))


class Bound(unittest.TestCase):
    def test_the_empty_book_binds_nothing(self):
        for case in CASES:
            self.assertIsNone(binding([], case))

    def test_a_book_of_one(self):
        self.assertEqual(("for", 0), binding([PRO], (A, C)))
        self.assertEqual(("against", 0), binding([CONTRA], (A, C)))
        self.assertIsNone(binding([PRO], ((), ())))

    def test_the_least_number_is_told(self):
        self.assertEqual(("for", 1), binding([FAR, PRO, PRO], (A, C)))
        wider = ruling((A, (("c", 5),)), "for", ())
        self.assertEqual(("for", 0), binding([wider, PRO], (A, C)))
        self.assertEqual(("for", 0), binding([PRO, wider], (A, C)))
        self.assertEqual(("for", 1), binding([PRO, wider], (A, (("c", 2),))))

    def test_the_documents_words_for_whole_books(self):
        for book in some_books(40, 6):
            for case in CASES:
                numbers = [k for k, one in enumerate(book) if is_bound_by(one, case)]
                told = binding(book, case)
                self.assertEqual((book[numbers[0]][1], numbers[0]) if numbers else None, told)
                # No case is bound to both sides.
                self.assertLessEqual(len({book[k][1] for k in numbers}), 1)

    def test_bound_just_where_every_ruling_for_the_other_side_is_barred(self):
        for book in some_books(25, 6):
            for case in CASES:
                allowed = {one[1] for one in rulings_of(case) if barred(book, one) is None}
                told = binding(book, case)
                self.assertEqual({"for", "against"} if told is None else {told[0]}, allowed)
                if told is not None:
                    # Each ruling for the other side stands against the one that is told.
                    for one in rulings_of(case):
                        self.assertEqual(one[1] != told[0], stand_against(one, book[told[1]]))


class Barred(unittest.TestCase):
    def test_allowed(self):
        self.assertIsNone(barred([], PRO))
        self.assertIsNone(barred([PRO], PRO))
        self.assertIsNone(barred([FAR, PRO], PRO))

    def test_the_least_number_is_told(self):
        self.assertEqual(0, barred([CONTRA], PRO))
        self.assertEqual(1, barred([FAR, CONTRA, CONTRA], PRO))

    def test_the_documents_words_for_books_by_chance(self):
        chance = random.Random(4)
        for turn in range(300):
            book = [some_ruling(chance, FORS, AGAINSTS) for length in range(chance.randint(0, 6))]
            one = some_ruling(chance, FORS, AGAINSTS)
            numbers = [k for k, other in enumerate(book) if stand_against(one, other)]
            self.assertEqual(numbers[0] if numbers else None, barred(book, one))

    def test_degrees_of_the_top(self):
        book = [((((("late", TOP - 1),)), ()), "against", ())]
        case = ((("late", TOP),), ())
        self.assertIsNone(barred(book, ruling(case, "for", (("late", TOP),))))
        self.assertEqual(0, barred(book, ruling(case, "for", (("late", TOP - 1),))))


class Fullest(unittest.TestCase):
    def test_all_of_the_pack_is_its_reason(self):
        for case in CASES:
            for side in ("for", "against"):
                self.assertEqual((case, side, own_pack(case, side)), fullest(case, side))

    def test_it_is_allowed_where_any_is(self):
        for book in some_books(25, 6):
            for case in CASES:
                for side in ("for", "against"):
                    some = any(barred(book, one) is None for one in rulings_of(case) if one[1] == side)
                    self.assertIs(some, barred(book, fullest(case, side)) is None)

    def test_no_side_is_refused(self):
        for thing in no_sides():
            assert_refused(self, NoSide, fullest, (A, C), thing)
            assert_refused(self, NoSide, fullest, None, thing)


class HandedIn(unittest.TestCase):
    def test_nothing_is_changed(self):
        book = [PRO, FAR, PRO, CONTRA]
        before = copy.deepcopy(book)
        for call in (lambda: torn(book), lambda: binding(book, (A, C)), lambda: barred(book, CONTRA)):
            call()
            self.assertEqual(before, book)

    def test_arguments_bear_the_told_names(self):
        self.assertIsNone(torn(book=[]))
        self.assertIsNone(binding(book=[], case=(A, C)))
        self.assertIsNone(barred(book=[], one=PRO))
        self.assertEqual(PRO, fullest(case=(A, C), side="for"))


if __name__ == "__main__":
    unittest.main()
