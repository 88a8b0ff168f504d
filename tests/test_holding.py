import copy
import itertools
import unittest

from likebook.actreader import read_act
from likebook.holding import case_of, holds, of_facts, so
from likebook.packs import pack

TOP = 10 ** 30
ACT = read_act(
    "fact a\nfact b\nopen o for a b against\nword w if o\nopen p for w b against o a\nclaim c if some p")


class Sayings(unittest.TestCase):
    def test_at(self):
        for held, n, told in (
                (0, 1, False), (1, 1, True), (2, 1, True), (2, 3, False), (3, 3, True), (TOP, TOP, True),
                (TOP - 1, TOP, False), (TOP, 1, True)):
            self.assertIs(told, holds(("at", "a", n), pack([("a", held), ("b", TOP)]), []))

    def test_is(self):
        self.assertIs(True, holds(("is", "o"), (), ["o"]))
        self.assertIs(True, holds(("is", "o"), (), ["p", "o"]))
        self.assertIs(False, holds(("is", "o"), (("a", 1),), []))
        self.assertIs(False, holds(("is", "o"), (("a", 1),), ["p"]))

    def test_not_and_or(self):
        yes, no = ("at", "a", 1), ("is", "o")
        thing, words = (("a", 1),), ["p"]
        for one, other in itertools.product((yes, no), repeat=2):
            self.assertIs(one == yes and other == yes, holds(("and", one, other), thing, words))
            self.assertIs(one == yes or other == yes, holds(("or", one, other), thing, words))
            self.assertIs(one != yes, holds(("not", one), thing, words))

    def test_within_each_other(self):
        saying = read_act("fact a\nopen o for against\nword w if not ( ( a or o ) and not ( o and a >= 2 ) )")[-1][2]
        for amount, words, told in ((0, [], True), (1, [], False), (1, ["o"], False), (2, ["o"], True), (0, ["o"], False)):
            self.assertIs(told, holds(saying, pack([("a", amount)]), words))


class Askings(unittest.TestCase):
    things = [(("a", 1),), (("a", 2),), ()]
    holding = [["o"], [], ["o"]]

    def ask(self, asking, things=None, holding=None):
        asking = read_act(f"fact a\nopen o for against\nclaim c if {asking}")[-1][2]
        return so(asking, self.things if things is None else things, self.holding if holding is None else holding)

    def test_some_and_all(self):
        for asking, told in (
                ("some a", True), ("all a", False), ("some a >= 2", True), ("some a >= 3", False), ("all not a >= 3", True),
                ("some o", True), ("all o", False), ("some ( o and not a )", True), ("some ( a >= 2 and o )", False),
                ("all ( a or o )", True)):
            self.assertIs(told, self.ask(asking), asking)

    def test_of_no_things(self):
        self.assertIs(False, self.ask("some a", [], []))
        self.assertIs(True, self.ask("all a", [], []))
        self.assertIs(True, self.ask("not some a", [], []))

    def test_not_and_or(self):
        yes, no = "some a", "all a"
        self.assertIs(False, self.ask(f"not {yes}"))
        self.assertIs(True, self.ask(f"not {no}"))
        for one, other in itertools.product((yes, no), repeat=2):
            self.assertIs(one == yes and other == yes, self.ask(f"( {one} and {other} )"))
            self.assertIs(one == yes or other == yes, self.ask(f"( {one} or {other} )"))

    def test_each_thing_has_its_own_words(self):
        self.assertIs(True, self.ask("some ( a and o )", [(("a", 1),), ()], [["o"], []]))
        self.assertIs(False, self.ask("some ( a and o )", [(("a", 1),), ()], [[], ["o"]]))


class Cases(unittest.TestCase):
    def test_facts_have_the_things_degree(self):
        self.assertEqual(((("a", 3), ("b", TOP)), ()), case_of(ACT[2], (("a", 3), ("b", TOP)), []))
        self.assertEqual(((("b", 1),), ()), case_of(ACT[2], (("b", 1),), []))
        self.assertEqual(((), ()), case_of(ACT[2], (), []))

    def test_opens_and_words_have_the_degree_1_where_they_hold(self):
        for words in ([], ["o"], ["w"], ["o", "w"]):
            expected = (
                pack([("b", 2), ("w", int("w" in words))]), pack([("a", 5), ("o", int("o" in words))]))
            self.assertEqual(expected, case_of(ACT[4], (("a", 5), ("b", 2)), words))

    def test_names_that_the_row_does_not_tell_do_not_count(self):
        row = ("open", "q", ("b",), ())
        self.assertEqual(((("b", 2),), ()), case_of(row, (("a", 5), ("b", 2)), ["o", "w"]))

    def test_a_name_in_both_lists_and_lists_in_another_order(self):
        row = ("open", "q", ("b", "a"), ("o", "a"))
        self.assertEqual((((("a", 1), ("b", 2))), (("a", 1), ("o", 1))), case_of(row, (("a", 1), ("b", 2)), ["o"]))

    def test_degrees_somewhat_beyond_are_not_refused(self):
        self.assertEqual(((("a", TOP + 1),), ()), case_of(ACT[2], (("a", TOP + 1),), []))


class Facts(unittest.TestCase):
    def test_the_acts_facts_alone(self):
        self.assertEqual((("a", 2), ("b", TOP)), of_facts(ACT, pack([("a", 2), ("b", TOP), ("c", 1), ("o", 1), ("z", 3)])))
        self.assertEqual((), of_facts(ACT, pack([("c", 1), ("o", 5), ("p", 1), ("w", 1), ("z", 3)])))
        self.assertEqual((), of_facts(ACT, ()))
        self.assertEqual((), of_facts([], (("a", 1),)))
        self.assertIs(tuple, type(of_facts(ACT, (("a", 1),))))


class HandedIn(unittest.TestCase):
    def test_nothing_is_changed(self):
        act, things, holding = copy.deepcopy(ACT), [(("a", 1), ("z", 2)), ()], [["o"], []]
        before = copy.deepcopy((act, things, holding))
        of_facts(act, things[0])
        so(act[-1][2], things, holding)
        case_of(act[4], things[0], holding[0])
        holds(act[3][2], things[0], holding[0])
        self.assertEqual(before, (act, things, holding))

    def test_arguments_bear_the_told_names(self):
        self.assertIs(True, holds(saying=("is", "o"), thing=(), words=["o"]))
        self.assertIs(True, so(asking=("some", ("is", "o")), things=[()], holding=[["o"]]))
        self.assertEqual(((), ()), case_of(row=ACT[2], thing=(), words=[]))
        self.assertEqual((), of_facts(act=ACT, thing=(("z", 1),)))


if __name__ == "__main__":
    unittest.main()
