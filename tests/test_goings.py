import copy
import random
import unittest

from likebook.goings import gone, tests_of
from likebook.needless import kept
from likebook.packs import pack
from likebook.rulings import ruling
from kinds import cases_of, is_bound_by, opposed_pack, own_pack, whole_book

TOP = 10 ** 30
FORS = {"a": 2, "b": 1}
AGAINSTS = {"b": 1, "c": 2}
CASES = cases_of(FORS, AGAINSTS)
BOOK = [
    ruling((pack([("a", 2), ("b", 1)]), pack([("c", 1), ("d", 3)])), "for", pack([("a", 2), ("b", 1)])),
    ruling((pack([("a", 2)]), ()), "for", pack([("a", 2)])),
    ruling(((), pack([("c", 2)])), "against", pack([("c", 2)])),
    ruling((pack([("a", 2), ("b", 1)]), ()), "for", pack([("a", 2), ("b", 1)])),
]
TESTS = [
    ("least", "for", "a", 2, 1, 6),
    ("least", "for", "b", 1, 2, 6),
    ("none", "against", ("c", "d"), 3, 6),
    ("most", "against", "c", 1, 4, 6),
    ("most", "against", "d", 3, 5, 6),
    ("bound", "for", 0),
    ("least", "for", "a", 2, 7, 9),
    ("none", "against", (), 8, 9),
    ("bound", "for", 1),
    ("least", "against", "c", 2, 10, 12),
    ("none", "for", (), 11, 12),
    ("bound", "against", 2),
    ("free",),
]


def told_tests(book):
    """The document's words, apart from the program."""
    tests = []
    for k in kept(book):
        case, side, reason = book[k]
        other = {"for": "against", "against": "for"}[side]
        opposed = opposed_pack(case, side)
        end = len(tests) + len(reason) + 1 + len(opposed) + 1
        for name, amount in reason:
            tests.append(("least", side, name, amount, len(tests) + 1, end))
        tests.append(("none", other, tuple(name for name, amount in opposed), len(tests) + 1, end))
        for name, amount in opposed:
            tests.append(("most", other, name, amount, len(tests) + 1, end))
        tests.append(("bound", side, k))
    return tests + [("free",)]


def told_going(tests, case):
    place, asked = 0, 0
    while tests[place][0] not in ("bound", "free"):
        test = tests[place]
        held = dict(own_pack(case, test[1]))
        asked += 1
        passed = {
            "least": lambda: held.get(test[2], 0) >= test[3],
            "most": lambda: held.get(test[2], 0) <= test[3],
            "none": lambda: set(held) <= set(test[2]),
        }[test[0]]()
        place = test[-2] if passed else test[-1]
    return (tests[place], asked)


def some_books(number, length):
    chance = random.Random(1)
    return [whole_book(chance, length, FORS, AGAINSTS) for turn in range(number)]


class Tests(unittest.TestCase):
    def test_the_empty_book(self):
        self.assertEqual([("free",)], tests_of([]))
        self.assertEqual((("free",), 0), gone(tests_of([]), ((), ())))

    def test_a_book(self):
        self.assertEqual(TESTS, tests_of(BOOK))

    def test_empty_packs(self):
        self.assertEqual(
            [("none", "against", (), 1, 2), ("bound", "for", 0), ("free",)], tests_of([ruling(((), ()), "for", ())]))
        self.assertEqual(
            [("none", "for", ("a",), 1, 3), ("most", "for", "a", TOP, 2, 3), ("bound", "against", 0), ("free",)],
            tests_of([ruling(((("a", TOP),), ()), "against", ())]))

    def test_kinds(self):
        for test in tests_of(BOOK):
            self.assertIs(tuple, type(test))
            if test[0] == "none":
                self.assertIs(tuple, type(test[2]))

    def test_the_documents_words_for_whole_books(self):
        for book in some_books(40, 8):
            tests = tests_of(book)
            self.assertEqual(told_tests(book), tests)
            led = set()
            for k, test in enumerate(tests):
                if test[0] in ("least", "none", "most"):
                    self.assertTrue(k < test[-2] and k < test[-1])
                    led.update(test[-2:])
            self.assertEqual(set(range(1, len(tests))), led)
            self.assertEqual(1, tests.count(("free",)))

    def test_arguments_bear_the_told_names(self):
        self.assertEqual([("free",)], tests_of(book=[]))
        self.assertEqual((("free",), 0), gone(tests=[("free",)], case=((), ())))


class Goings(unittest.TestCase):
    def test_a_book(self):
        going = gone(TESTS, (pack([("a", 2), ("b", 1)]), pack([("d", 1)])))
        self.assertEqual((("bound", "for", 0), 5), going)
        self.assertIs(tuple, type(going))
        self.assertEqual((("bound", "for", 1), 4), gone(TESTS, (pack([("a", 2)]), ())))
        self.assertEqual((("bound", "against", 2), 4), gone(TESTS, ((), pack([("c", 2)]))))
        self.assertEqual((("free",), 3), gone(TESTS, ((), ())))
        self.assertEqual((("free",), 4), gone(TESTS, (pack([("z", 1)]), pack([("c", 2)]))))
        self.assertEqual((("free",), 6), gone(TESTS, (pack([("a", 2), ("b", 1)]), pack([("z", 1)]))))

    def test_degrees_beside(self):
        tests = tests_of([ruling(((("a", TOP),), (("c", TOP - 1),)), "for", (("a", TOP),))])
        for amount, opposed, bound in ((TOP, TOP - 1, True), (TOP - 1, 1, False), (TOP, TOP, False), (TOP, 1, True)):
            told = gone(tests, ((("a", amount),), (("c", opposed),)))
            self.assertEqual(("bound", "for", 0) if bound else ("free",), told[0])

    def test_what_is_told_binds_and_where_none_does_free_is_told(self):
        for book in some_books(30, 8):
            tests = tests_of(book)
            for case in CASES:
                told, asked = gone(tests, case)
                self.assertEqual(told_going(tests, case), (told, asked))
                if told == ("free",):
                    self.assertEqual([], [one for one in book if is_bound_by(one, case)])
                else:
                    self.assertEqual("bound", told[0])
                    self.assertIn(told[2], kept(book))
                    self.assertEqual(told[1], book[told[2]][1])
                    self.assertTrue(is_bound_by(book[told[2]], case))

    def test_nothing_is_changed_and_each_told_list_is_the_askers_own(self):
        before = copy.deepcopy((BOOK, TESTS))
        for book in (BOOK, []):
            first, second = tests_of(book), tests_of(book)
            gone(first, ((), ()))
            self.assertEqual(second, first)
            first.append(("free",))
            first[0] = None
            self.assertEqual(second, tests_of(book))
        self.assertEqual(before, (BOOK, TESTS))


if __name__ == "__main__":
    unittest.main()
