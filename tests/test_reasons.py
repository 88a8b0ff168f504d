import copy
import random
import unittest

from likebook.books import barred
from likebook.errors import NoSide, TooMuch
from likebook.packs import pack
from likebook.reasons import least_reasons
from likebook.rulings import ruling
from kinds import (
    assert_refused, cases_of, is_within, many_names, no_sides, own_pack, packs_of, stand_against, whole_book,
)

TOP = 10 ** 30


def ones(names):
    return tuple((name, 1) for name in sorted(names))


def turned(case):
    return (case[1], case[0])


def wall(held, opposed=(), reason=()):
    """A ruling against: a reason for must be over what it held."""
    return ((held, opposed), "against", reason)


def told_least(book, case, side):
    """The document's words, apart from the program."""
    allowed = [
        reason for reason in packs_of(dict(own_pack(case, side)))
        if not any(stand_against((case, side, reason), one) for one in book)]
    return sorted(one for one in allowed if not any(other != one and is_within(other, one) for other in allowed))


class Least(unittest.TestCase):
    def test_the_empty_book_allows_the_empty_reason(self):
        for case in (((), ()), (ones("ab"), ones("c")), ((("late", TOP),), ())):
            for side in ("for", "against"):
                self.assertEqual([()], least_reasons([], case, side))

    def test_rulings_of_the_side_or_of_other_reasons_do_not_count(self):
        case = (ones("ab"), ones("c"))
        book = [ruling(case, "for", ()), (((), ones("d")), "against", ones("d"))]
        self.assertEqual([()], least_reasons(book, case, "for"))

    def test_one_wall(self):
        case = (ones("abc"), ())
        self.assertEqual([ones("a"), ones("b"), ones("c")], least_reasons([wall(())], case, "for"))
        self.assertEqual([ones("b"), ones("c")], least_reasons([wall(ones("a"))], case, "for"))
        self.assertEqual([ones("b")], least_reasons([wall(ones("ac"))], case, "for"))

    def test_none_is_allowed(self):
        case = (ones("abc"), ())
        self.assertEqual([], least_reasons([wall(ones("abc"))], case, "for"))
        self.assertEqual([], least_reasons([wall(()), wall((("a", 9), ("b", 1), ("c", 1))), wall(())], case, "for"))
        self.assertEqual([], least_reasons([wall(())], ((), ()), "for"))

    def test_two_walls(self):
        case = (ones("abc"), ())
        self.assertEqual([ones("ab"), ones("c")], least_reasons([wall(ones("a")), wall(ones("b"))], case, "for"))
        self.assertEqual(
            [ones("ab"), ones("ac"), ones("bc")],
            least_reasons([wall(ones("a")), wall(ones("b")), wall(ones("c"))], case, "for"))

    def test_one_degree_more_than_the_wall(self):
        case = ((("a", 5), ("b", TOP)), ())
        self.assertEqual([(("a", 4),), (("b", 1),)], least_reasons([wall((("a", 3),))], case, "for"))
        self.assertEqual([(("a", 5),), (("b", TOP),)], least_reasons([wall((("a", 4), ("b", TOP - 1)))], case, "for"))
        self.assertEqual([(("b", TOP),)], least_reasons([wall((("a", 5), ("b", TOP - 1)))], case, "for"))
        self.assertEqual([], least_reasons([wall((("a", 5), ("b", TOP)))], case, "for"))

    def test_a_higher_step_of_the_same_name(self):
        case = ((("a", 3), ("b", 1)), ())
        book = [wall(()), wall((("a", 1),)), wall((("a", 2),))]
        self.assertEqual([(("a", 3),), (("b", 1),)], least_reasons(book, case, "for"))

    def test_the_other_side(self):
        case = ((), ones("ab"))
        self.assertEqual([ones("a"), ones("b")], least_reasons([(((), ()), "for", ())], case, "against"))

    def test_a_name_of_both_packs(self):
        case = ((("a", 2),), (("a", 1),))
        book = [ruling(((("a", 1),), (("a", 1),)), "against", (("a", 1),))]
        self.assertEqual([(("a", 2),)], least_reasons(book, case, "for"))
        self.assertEqual([()], least_reasons(book, case, "against"))

    def test_sorted_as_tuples_are(self):
        case = (pack([("a", 12), ("b", 3), ("aa", 1)]), ())
        told = least_reasons([wall((("a", 9),)), wall((("aa", 1),))], case, "for")
        self.assertEqual(sorted(told), told)
        self.assertEqual([(("a", 1), ("aa", 1)), (("a", 10),), (("b", 1),)], told)

    def test_the_documents_words_for_whole_books(self):
        chance = random.Random(5)
        shapes = (({"a": 2, "b": 1, "c": 1}, {"c": 1, "d": 1}), ({"a": 3, "b": 3}, {"a": 1}))
        for fors, againsts in shapes:
            cases = cases_of(fors, againsts)
            seen = set()
            for turn in range(25):
                book = whole_book(chance, 7, fors, againsts)
                for case in cases:
                    for side in ("for", "against"):
                        told = least_reasons(book, case, side)
                        self.assertEqual(told_least(book, case, side), told)
                        seen.add(len(told))
            self.assertLess(2, len(seen))

    def test_over_a_least_one_all_is_allowed_and_nothing_else_is(self):
        chance = random.Random(6)
        fors, againsts = {"a": 2, "b": 2}, {"c": 2}
        for turn in range(15):
            book = whole_book(chance, 6, fors, againsts)
            for case in cases_of(fors, againsts):
                told = least_reasons(book, case, "for")
                for reason in packs_of(dict(case[0])):
                    some = any(is_within(one, reason) for one in told)
                    self.assertIs(some, barred(book, (case, "for", reason)) is None)


class TooMany(unittest.TestCase):
    names = many_names()

    def test_exactly_a_hundred(self):
        for side in ("for", "against"):
            case = (ones(self.names[:100]), ())
            book = [wall(())]
            if side == "against":
                case = turned(case)
                book = [(((), ()), "for", ())]
            told = least_reasons(book, case, side)
            self.assertEqual([((name, 1),) for name in self.names[:100]], told)

    def test_a_hundred_and_one(self):
        case = (ones(self.names[:101]), ())
        assert_refused(self, TooMuch, least_reasons, [wall(())], case, "for")
        assert_refused(self, TooMuch, least_reasons, [(((), ()), "for", ())], turned(case), "against")

    def test_looked_at_k_by_k(self):
        case = (ones(self.names[:101]), ())
        many, one_left, none_left = wall(()), wall(ones(self.names[:100])), wall(ones(self.names[:101]))
        # All of them leave one least reason or none, but the first alone leaves a hundred and one.
        assert_refused(self, TooMuch, least_reasons, [many, one_left], case, "for")
        assert_refused(self, TooMuch, least_reasons, [many, none_left], case, "for")
        self.assertEqual([((self.names[100], 1),)], least_reasons([one_left, many], case, "for"))
        self.assertEqual([], least_reasons([none_left, many], case, "for"))

    def test_too_many_only_in_the_midst(self):
        case = (ones(self.names[:25]), ())
        first, second = self.names[:11], self.names[11:22]
        walls = [wall(ones(set(self.names) - set(first))), wall(ones(set(self.names) - set(second)))]
        last = wall(ones(self.names[:24]))
        assert_refused(self, TooMuch, least_reasons, walls, case, "for")
        assert_refused(self, TooMuch, least_reasons, walls + [last], case, "for")
        told = least_reasons([walls[0], last], case, "for")
        self.assertEqual([ones([name, self.names[24]]) for name in first], told)

    def test_ten_times_ten(self):
        case = (ones(self.names[:20]), ())
        walls = [wall(ones(self.names[10:20])), wall(ones(self.names[:10]))]
        told = least_reasons(walls, case, "for")
        self.assertEqual(sorted(ones([a, b]) for a in self.names[:10] for b in self.names[10:20]), told)
        self.assertEqual(100, len(told))

    def test_a_long_book(self):
        case = (ones(self.names[:100]), ())
        book = [wall(ones(self.names[:k])) for k in range(99)] * 2
        self.assertEqual([((self.names[k], 1),) for k in (98, 99)], least_reasons(book, case, "for"))

    def test_no_side_is_refused_ahead_of_too_much(self):
        case = (ones(self.names[:101]), ones(self.names[:101]))
        for thing in no_sides():
            assert_refused(self, NoSide, least_reasons, [wall(())], case, thing)
            assert_refused(self, NoSide, least_reasons, None, None, thing)


class HandedIn(unittest.TestCase):
    def test_nothing_is_changed_and_a_told_list_is_the_askers_own(self):
        case = (ones("abc"), ())
        for book in ([], [wall(())], [wall(ones("abc"))]):
            before = copy.deepcopy(book)
            first = least_reasons(book, case, "for")
            second = least_reasons(book, case, "for")
            first.append(ones("z"))
            self.assertEqual(before, book)
            self.assertEqual(second, least_reasons(book, case, "for"))
            self.assertNotEqual(first, second)

    def test_arguments_bear_the_told_names(self):
        self.assertEqual([()], least_reasons(book=[], case=((), ()), side="for"))


if __name__ == "__main__":
    unittest.main()
