import copy
import itertools
import random
import unittest

from likebook.books import barred, binding, torn
from likebook.needless import cover_list, covers, kept, marrow, parted
from likebook.rulings import binds, ruling
from kinds import cases_of, is_bound_by, is_within, opposed_pack, own_pack, rulings_of, whole_book

TOP = 10 ** 30
FORS = {"a": 2, "b": 1}
AGAINSTS = {"b": 1, "c": 2}
CASES = cases_of(FORS, AGAINSTS)
A = (("a", 1),)
C = (("c", 1),)
AB = (("a", 1), ("b", 1))


def some_books(number, length, seed=1):
    chance = random.Random(seed)
    return [whole_book(chance, length, FORS, AGAINSTS) for turn in range(number)]


def is_covered(one, other):
    """The document's words, apart from the program: whether one covers other."""
    return (
        one[1] == other[1] and is_within(one[2], other[2])
        and is_within(opposed_pack(other[0], other[1]), opposed_pack(one[0], one[1]))
    )


def kept_ones(book):
    stay = []
    for k, one in enumerate(book):
        coverers = [j for j, other in enumerate(book) if j != k and is_covered(other, one)]
        mutual = [j for j in coverers if is_covered(one, book[j])]
        if coverers == mutual and all(k < j for j in mutual):
            stay.append(k)
    return stay


def binding_side(book, case):
    found = binding(book, case)
    return None if found is None else found[0]


class Covers(unittest.TestCase):
    def test_lesser_reason_and_more_opposed(self):
        one = ruling((AB, C), "for", A)
        self.assertIs(True, covers(one, ruling((AB, C), "for", AB)))
        self.assertIs(True, covers(one, ruling((A, ()), "for", A)))
        self.assertIs(False, covers(one, ruling((AB, C), "for", ())))
        self.assertIs(False, covers(one, ruling((A, (("c", 2),)), "for", A)))
        self.assertIs(False, covers(one, ruling((A, (("d", 1),)), "for", A)))
        self.assertIs(False, covers(one, ruling((AB, C), "against", C)))

    def test_a_ruling_covers_itself_and_its_like(self):
        one = ruling((AB, C), "against", C)
        self.assertIs(True, covers(one, one))
        # The rest of its own pack doesn't count.
        self.assertIs(True, covers(one, ruling((AB, (("c", 2), ("d", 1))), "against", C)))

    def test_empty_packs(self):
        bare = ruling(((), ()), "for", ())
        self.assertIs(True, covers(bare, ruling((A, ()), "for", A)))
        self.assertIs(False, covers(bare, ruling((A, C), "for", A)))
        self.assertIs(True, covers(ruling((A, C), "for", ()), bare))

    def test_degrees_of_the_top(self):
        one = ruling(((("a", TOP),), (("c", TOP - 1),)), "for", (("a", TOP - 1),))
        self.assertIs(True, covers(one, ruling(((("a", TOP),), (("c", TOP - 1),)), "for", (("a", TOP),))))
        self.assertIs(False, covers(one, ruling(((("a", TOP),), (("c", TOP),)), "for", (("a", TOP),))))
        self.assertIs(False, covers(one, ruling(((("a", TOP),), ()), "for", (("a", TOP - 2),))))

    def test_just_then_it_binds_all_that_the_other_binds(self):
        rulings = [one for case in CASES[::5] for one in rulings_of(case)]
        bound = [frozenset(k for k, case in enumerate(CASES) if is_bound_by(one, case)) for one in rulings]
        for one, mine in zip(rulings, bound):
            for other, yours in zip(rulings, bound):
                self.assertIs(is_covered(one, other), covers(one, other))
                self.assertIs(one[1] == other[1] and yours <= mine, covers(one, other))


class Kept(unittest.TestCase):
    narrow = ruling((AB, ()), "for", AB)
    middle = ruling((AB, C), "for", AB)
    wide = ruling((AB, (("c", 2),)), "for", A)
    twin = ruling(((("a", 1), ("b", 1), ("d", 3)), C), "for", AB)
    aside = ruling(((), C), "against", C)

    def test_the_empty_book(self):
        self.assertEqual(([], [], []), (kept([]), cover_list([]), marrow([])))

    def test_a_book_of_one(self):
        self.assertEqual(([0], [None]), (kept([self.wide]), cover_list([self.wide])))
        self.assertEqual([("for", A, (("c", 2),))], marrow([self.wide]))

    def test_what_another_covers_is_left_out(self):
        self.assertEqual(([2], [2, 2, None]), self.told([self.narrow, self.middle, self.wide]))
        self.assertEqual(([0], [None, 0, 0]), self.told([self.wide, self.middle, self.narrow]))
        self.assertEqual(([1, 2], [1, None, None]), self.told([self.narrow, self.wide, self.aside]))

    def told(self, book):
        return (kept(book), cover_list(book))

    def test_of_those_that_cover_each_other_the_first_is_kept(self):
        self.assertEqual(([0], [None, 0]), self.told([self.middle, self.twin]))
        self.assertEqual(([0], [None, 0]), self.told([self.twin, self.middle]))
        self.assertEqual(([0], [None, 0, 0]), self.told([self.wide] * 3))
        self.assertEqual(([1], [1, None, 1, 1]), self.told([self.narrow, self.twin, self.middle, self.twin]))
        self.assertEqual(([2], [2, 2, None]), self.told([self.middle, self.twin, self.wide]))

    def test_the_least_kept_one_that_covers_is_told(self):
        one = ruling((AB, C), "for", A)
        other = ruling((AB, C), "for", (("b", 1),))
        both = ruling((AB, C), "for", AB)
        self.assertEqual(([0, 1], [None, None, 0]), self.told([one, other, both]))
        self.assertEqual(([1, 2], [1, None, None]), self.told([both, other, one]))

    def test_a_book_of_which_nothing_is_left_out(self):
        book = [ruling((A, C), "for", A), ruling((A, (("c", 2),)), "against", (("c", 2),)), self.middle]
        book[2] = ruling((AB, (("c", 5),)), "for", AB)
        self.assertEqual(([0, 1, 2], [None] * 3), self.told(book))

    def test_the_documents_words_for_whole_books(self):
        left_out = 0
        for book in some_books(60, 9):
            book = book + book[:2]
            stay = kept_ones(book)
            self.assertEqual(stay, kept(book))
            expected = [
                None if k in stay else min(j for j in stay if is_covered(book[j], one)) for k, one in enumerate(book)]
            self.assertEqual(expected, cover_list(book))
            cores = {(book[k][1], book[k][2], opposed_pack(book[k][0], book[k][1])) for k in stay}
            self.assertEqual(sorted(cores), marrow(book))
            left_out += len(book) - len(stay)
        self.assertLess(120, left_out)

    def test_what_is_left_out_binds_and_allows_no_more_and_no_less(self):
        rulings = [one for case in CASES for one in rulings_of(case)]
        for book in some_books(12, 9, seed=2):
            rest = [book[k] for k in kept(book)]
            for case in CASES:
                self.assertEqual(binding_side(book, case), binding_side(rest, case))
            for one in rulings:
                self.assertIs(barred(book, one) is None, barred(rest, one) is None)
            for k, by in enumerate(cover_list(book)):
                for case in CASES:
                    self.assertTrue(by is None or not binds(book[k], case) or binds(book[by], case))

    def test_the_marrow_is_sorted_and_has_each_once(self):
        book = [self.aside, self.twin, self.middle, ruling((A, ()), "for", A), self.aside]
        self.assertEqual([("against", C, ()), ("for", A, ()), ("for", AB, C)], marrow(book))


class Parted(unittest.TestCase):
    def look_at(self, one, other):
        told = parted(one, other)
        if marrow(one) == marrow(other):
            self.assertIsNone(told)
            for case in CASES:
                self.assertEqual(binding_side(one, case), binding_side(other, case))
            return
        case, side, first = told
        self.assertIs(tuple, type(told))
        self.assertIs(bool, type(first))
        bound = [binding_side(book, case) == side for book in (one, other)]
        self.assertEqual([first, not first], bound)

    def test_the_same_is_left(self):
        wide, narrow = ruling((AB, C), "for", A), ruling((AB, ()), "for", AB)
        for one, other in (([], []), ([wide], [wide, wide]), ([narrow, wide], [wide]), ([wide], [narrow, wide])):
            self.assertIsNone(parted(one, other))

    def test_the_empty_book(self):
        for reason, opposed in itertools.product(((), A, AB), ((), C)):
            one = [ruling((AB, opposed), "for", reason)]
            self.look_at(one, [])
            self.look_at([], one)
            self.assertIs(True, parted(one, [])[2])
            self.assertIs(False, parted([], one)[2])

    def test_the_first_binds_more_and_the_second_binds_more(self):
        wide, narrow = [ruling((AB, C), "for", A)], [ruling((AB, ()), "for", AB)]
        self.assertIs(True, parted(wide, narrow)[2])
        self.assertIs(False, parted(narrow, wide)[2])
        self.look_at(wide, narrow)
        self.look_at(narrow, wide)

    def test_one_case_bound_to_unlike_sides(self):
        one, other = [ruling((A, C), "for", A)], [ruling((A, C), "against", C)]
        self.look_at(one, other)
        self.look_at(other, one)

    def test_against(self):
        one, other = [ruling((A, C), "against", C)], [ruling((A, C), "against", ())]
        self.look_at(one, other)
        self.look_at(other, one)
        case, side, first = parted(other, one)
        self.assertEqual(("against", True), (side, first))
        self.assertEqual((own_pack(case, side), opposed_pack(case, side)), ((), A))

    def test_books_by_chance(self):
        books = some_books(40, 3, seed=3) + some_books(10, 9, seed=4)
        books = books + [list(reversed(book)) for book in books[:10]] + [book[1:] for book in books]
        for one, other in itertools.product(books, repeat=2):
            self.look_at(one, other)

    def test_degrees_of_the_top(self):
        one = [ruling(((("a", TOP),), ()), "for", (("a", TOP),))]
        other = [ruling(((("a", TOP),), ()), "for", (("a", TOP - 1),))]
        self.assertEqual((((("a", TOP - 1),), ()), "for", False), parted(one, other))


class HandedIn(unittest.TestCase):
    def test_nothing_is_changed_and_each_told_list_is_the_askers_own(self):
        book = [Kept.narrow, Kept.wide, Kept.aside, Kept.wide]
        before = copy.deepcopy(book)
        for call in (kept, cover_list, marrow):
            for handed in (book, []):
                first, second = call(handed), call(handed)
                first.append("more")
                first[0] = "other"
                self.assertEqual(second, call(handed))
        parted(book, book[:1])
        self.assertEqual(before, book)
        self.assertIsNone(torn(book))

    def test_arguments_bear_the_told_names(self):
        self.assertIs(True, covers(one=Kept.wide, other=Kept.wide))
        self.assertEqual([0], kept(book=[Kept.wide]))
        self.assertEqual([None], cover_list(book=[Kept.wide]))
        self.assertEqual([], marrow(book=[]))
        self.assertIsNone(parted(one=[], other=[]))


if __name__ == "__main__":
    unittest.main()
