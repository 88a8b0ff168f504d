import copy
import itertools
import unittest

from likebook.errors import NoPack
from likebook.packs import degree, excess, is_degree, is_name, join, meet, over, pack, within
from kinds import NINE, assert_refused, many_names, no_degrees, no_names

TOP = 10 ** 30
NAMES = ("armed", "hurt", "late")


def small_packs():
    """All packs of three names with degrees up to 2, the empty one among them."""
    return [
        tuple((name, amount) for name, amount in zip(NAMES, amounts) if amount)
        for amounts in itertools.product(range(3), repeat=3)
    ]


def told_degree(one, name):
    """The degree as the document tells it, apart from the program."""
    found = [amount for own, amount in one if own == name]
    return found[0] if found else 0


class Names(unittest.TestCase):
    def test_names(self):
        for thing in ("a", "z", "armed", "azazaz", "abcdefghijkl", "zzzzzzzzzzzz"):
            self.assertIs(True, is_name(thing), thing)

    def test_every_small_letter(self):
        for letter in "abcdefghijklmnopqrstuvwxyz":
            self.assertIs(True, is_name(letter))

    def test_no_other_sign_of_ascii(self):
        for number in range(128):
            sign = chr(number)
            if not "a" <= sign <= "z":
                self.assertIs(False, is_name(sign), number)
                self.assertIs(False, is_name("a" + sign), number)
                self.assertIs(False, is_name(sign + "a"), number)
                self.assertIs(False, is_name("a" + sign + "a"), number)

    def test_lengths(self):
        self.assertEqual(
            [False] + [True] * 12 + [False] * 3, [is_name("x" * length) for length in range(16)])

    def test_the_nine_words_are_no_names(self):
        self.assertEqual(9, len(set(NINE)))
        for word in NINE:
            self.assertIs(False, is_name(word), word)

    def test_other_words_of_the_document_are_names(self):
        near = [word + "s" for word in NINE] + ["an", "o", "no", "i", "s", "som", "al", "fo", "agains"]
        for word in near + ["fact", "open", "word", "claim", "under", "none", "true", "any"]:
            self.assertIs(True, is_name(word), word)

    def test_things_of_any_kind(self):
        for thing in no_names():
            self.assertIs(False, is_name(thing))


class Degrees(unittest.TestCase):
    def test_degrees(self):
        for thing in (0, 1, 2, 17, 2 ** 64, TOP - 1, TOP):
            self.assertIs(True, is_degree(thing), thing)

    def test_truths_are_none(self):
        self.assertIs(False, is_degree(True))
        self.assertIs(False, is_degree(False))

    def test_things_of_any_kind(self):
        for thing in no_degrees():
            self.assertIs(False, is_degree(thing))


class Made(unittest.TestCase):
    def test_sorted_by_names(self):
        self.assertEqual((("armed", 3), ("late", 1)), pack([("late", 1), ("armed", 3)]))
        self.assertEqual((("a", 2), ("aa", 1), ("b", 3)), pack([("b", 3), ("aa", 1), ("a", 2)]))

    def test_empty(self):
        self.assertEqual((), pack([]))

    def test_noughts_are_left_out(self):
        self.assertEqual((), pack([("late", 0)]))
        self.assertEqual((("armed", 1),), pack([("late", 0), ("armed", 1), ("hurt", 0)]))

    def test_of_a_name_the_greatest_degree_counts(self):
        for amounts in itertools.product((0, 1, 2, 10, TOP), repeat=3):
            told = pack([("late", amount) for amount in amounts])
            expected = (("late", max(amounts)),) if max(amounts) else ()
            self.assertEqual(expected, told)

    def test_several_names_several_times(self):
        pairs = [("late", 2), ("armed", 9), ("late", 0), ("hurt", 1), ("armed", 10), ("late", 1), ("hurt", 1)]
        for order in (pairs, pairs[::-1]):
            self.assertEqual((("armed", 10), ("hurt", 1), ("late", 2)), pack(order))

    def test_the_ends_of_names_and_degrees(self):
        self.assertEqual((("abcdefghijkl", TOP), ("z", 1)), pack([("z", 1), ("abcdefghijkl", TOP)]))

    def test_kinds(self):
        told = pack([("late", 1), ("armed", 3)])
        self.assertIs(tuple, type(told))
        self.assertEqual([tuple, tuple], [type(pair) for pair in told])

    def test_a_pack_made_again_is_the_same(self):
        for one in small_packs():
            self.assertEqual(one, pack(list(one)))
            self.assertEqual(one, pack(list(reversed(one))))

    def test_two_hundred_pairs(self):
        pairs = [(name, number + 1) for number, name in enumerate(many_names())]
        self.assertEqual(tuple(pairs), pack(pairs[::-1]))

    def test_no_name_is_refused(self):
        for thing in no_names():
            for amount in (0, 1, TOP):
                assert_refused(self, NoPack, pack, [(thing, amount)])
            assert_refused(self, NoPack, pack, [("late", 1), (thing, 1)])
            assert_refused(self, NoPack, pack, [(thing, 1), ("late", 1)])

    def test_no_degree_is_refused(self):
        for thing in no_degrees():
            assert_refused(self, NoPack, pack, [("late", thing)])
            assert_refused(self, NoPack, pack, [("late", 1), ("late", thing)])
            assert_refused(self, NoPack, pack, [("late", thing), ("late", TOP)])
            assert_refused(self, NoPack, pack, [("armed", 1), ("late", thing)])

    def test_no_name_and_no_degree_is_refused(self):
        for thing in no_degrees():
            assert_refused(self, NoPack, pack, [("and", thing)])

    def test_what_is_handed_in_is_not_changed(self):
        pairs = [("late", 1), ("armed", 3), ("late", 0), ("hurt", 0)]
        before = copy.deepcopy(pairs)
        pack(pairs)
        self.assertEqual(before, pairs)
        wrong = [("late", 1), ("and", 3)]
        assert_refused(self, NoPack, pack, wrong)
        self.assertEqual([("late", 1), ("and", 3)], wrong)

    def test_what_is_done_later_to_what_was_handed_in_changes_nothing(self):
        pairs = [("late", 1)]
        told = pack(pairs)
        pairs[0] = ("armed", 9)
        pairs.append(("hurt", 2))
        self.assertEqual((("late", 1),), told)


class Compared(unittest.TestCase):
    def test_degree(self):
        one = (("armed", 3), ("late", TOP))
        self.assertEqual(3, degree(one, "armed"))
        self.assertEqual(TOP, degree(one, "late"))

    def test_degree_of_a_name_that_is_not_there(self):
        self.assertEqual(0, degree((("armed", 3), ("late", 1)), "hurt"))
        self.assertEqual(0, degree((("armed", 3),), "arme"))
        self.assertEqual(0, degree((), "armed"))

    def test_the_documents_words_for_all_small_packs(self):
        for one in small_packs():
            for other in small_packs():
                self.compare(one, other)

    def compare(self, one, other):
        pairs = [(name, told_degree(one, name), told_degree(other, name)) for name in NAMES]
        above = [(name, mine - yours) for name, mine, yours in pairs if mine > yours]
        self.assertIs(above == [], within(one, other))
        self.assertEqual(tuple((name, min(a, b)) for name, a, b in pairs if min(a, b)), meet(one, other))
        self.assertEqual(tuple((name, max(a, b)) for name, a, b in pairs if max(a, b)), join(one, other))
        self.assertEqual([name for name, more in above], over(one, other))
        self.assertEqual(sum(more for name, more in above), excess(one, other))
        for name in NAMES:
            self.assertEqual(told_degree(one, name), degree(one, name))

    def test_empty_packs(self):
        one = (("late", 2),)
        self.assertIs(True, within((), ()))
        self.assertIs(True, within((), one))
        self.assertIs(False, within(one, ()))
        self.assertEqual((), meet(one, ()))
        self.assertEqual((), meet((), one))
        self.assertEqual(one, join(one, ()))
        self.assertEqual(one, join((), one))
        self.assertEqual(["late"], over(one, ()))
        self.assertEqual([], over((), one))
        self.assertEqual(2, excess(one, ()))
        self.assertEqual(0, excess((), one))

    def test_names_in_one_of_both_alone(self):
        one = (("armed", 3), ("late", 1))
        other = (("hurt", 2), ("late", 5))
        self.assertEqual((("late", 1),), meet(one, other))
        self.assertEqual((("armed", 3), ("hurt", 2), ("late", 5)), join(one, other))
        self.assertEqual(["armed"], over(one, other))
        self.assertEqual(["hurt", "late"], over(other, one))
        self.assertEqual((3, 6), (excess(one, other), excess(other, one)))
        self.assertEqual((False, False), (within(one, other), within(other, one)))

    def test_the_greatest_degrees(self):
        one = (("armed", TOP), ("late", TOP))
        other = (("armed", TOP - 1), ("late", 1))
        self.assertEqual(["armed", "late"], over(one, other))
        self.assertEqual(TOP, excess(one, other))
        self.assertEqual(2 * TOP, excess(one, ()))
        self.assertEqual(other, meet(one, other))
        self.assertEqual(one, join(one, other))
        self.assertEqual((False, True), (within(one, other), within(other, one)))

    def test_degrees_somewhat_beyond_are_not_refused(self):
        one = (("late", TOP + 1),)
        other = (("late", TOP),)
        self.assertEqual((one, other), (join(one, other), meet(one, other)))
        self.assertEqual((["late"], 1), (over(one, other), excess(one, other)))
        self.assertEqual((False, True), (within(one, other), within(other, one)))

    def test_names_over_are_sorted(self):
        one = pack([("z", 1), ("aa", 2), ("a", 2), ("m", 3)])
        self.assertEqual(["a", "aa", "m", "z"], over(one, ()))
        self.assertEqual(["aa", "m", "z"], over(one, (("a", 2), ("m", 2))))

    def test_meet_and_join_tell_packs(self):
        for one in small_packs():
            for other in small_packs():
                for told in (meet(one, other), join(one, other)):
                    self.assertIs(tuple, type(told))
                    self.assertEqual(told, pack(list(told)))

    def test_a_told_list_is_the_askers_own(self):
        one = (("armed", 3), ("late", 1))
        for other, expected in (((), ["armed", "late"]), (one, [])):
            first = over(one, other)
            second = over(one, other)
            first.append("hurt")
            first[0] = "hurt"
            self.assertEqual(expected, second)
            self.assertEqual(expected, over(one, other))
        self.assertEqual((("armed", 3), ("late", 1)), one)


class Interface(unittest.TestCase):
    def test_arguments_bear_the_told_names(self):
        one = pack(pairs=[("late", 2)])
        self.assertIs(True, is_name(thing="late"))
        self.assertIs(True, is_degree(thing=0))
        self.assertEqual(2, degree(one=one, name="late"))
        self.assertIs(False, within(one=one, other=()))
        self.assertEqual((), meet(one=one, other=()))
        self.assertEqual(one, join(one=one, other=()))
        self.assertEqual(["late"], over(one=one, other=()))
        self.assertEqual(2, excess(one=one, other=()))


if __name__ == "__main__":
    unittest.main()
