import copy
import itertools
import random
import unittest

from likebook.actreader import read_act
from likebook.clerk import clerk
from likebook.errors import TooMuch, Unknown
from likebook.parts import asked
from likebook.readings import settled
from kinds import assert_refused, opposed_pack, packs_of, some_act, some_books, some_pack

TOP = 10 ** 30
ACT = read_act(
    "fact a\nopen o for a against\nword w if ( o or a >= 3 )\nclaim c if some w\nclaim d if all ( o and not a )")


def ats(part):
    if part[0] == "at":
        return {part[1:]}
    return set().union(*[ats(one) for one in part[1:] if isinstance(one, tuple)])


def questions(act, books, many):
    """The document's words on the questions that can come, apart from the program."""
    facts = {row[1] for row in act if row[0] == "fact"}
    marks, names = set(), set()
    for row in act:
        if row[0] in ("word", "claim"):
            marks |= ats(row[2])
        elif row[0] == "open":
            lists = {"for": row[2], "against": row[3]}
            names |= facts & set(row[2] + row[3])
            for case, side, reason in books.get(row[1], []):
                other = {"for": "against", "against": "for"}[side]
                marks |= {(f, dict(reason)[f]) for f in facts & set(lists[side]) if f in dict(reason)}
                opposed = dict(opposed_pack(case, side))
                marks |= {(f, opposed.get(f, 0) + 1) for f in facts & set(lists[other]) if opposed.get(f, 0) < TOP}
    least = {("least", thing, name, amount) for thing in range(many) for name, amount in marks}
    compared = {("as", one, other, name) for one in range(many) for other in range(many) for name in names if one != other}
    return least | compared


def too_much(act, books, many):
    uses = many * sum(row[0] == "open" for row in act)
    return uses > 8 or len(questions(act, books, many)) + uses > 14


def order(part):
    return (part[0] == "as",) + part[1:4]


class Clerk(unittest.TestCase):
    def look_at(self, act, books, many, parts):
        """Points 25 to 27: how a list of parts lies."""
        self.assertIs(list, type(parts))
        self.assertEqual(len(set(parts)), len(parts))
        led, can_come = set(), questions(act, books, many)
        for k, part in enumerate(parts):
            self.assertIs(tuple, type(part))
            if part[0] == "told":
                self.assertIn(part, [("told", word) for word in ("must", "never", "open")])
                continue
            self.assertEqual(6, len(part))
            no, yes = part[4:]
            self.assertTrue(0 <= no < k and 0 <= yes < k and no != yes, parts)
            self.assertIn(part[:4], can_come)
            led.update((no, yes))
            for place in (no, yes):
                if parts[place][0] != "told":
                    self.assertLess(order(part), order(parts[place]))
        self.assertEqual(set(range(len(parts) - 1)), led)

    def same_as_settled(self, act, books, claim, parts, lists):
        seen = set()
        for things in lists:
            told = asked(parts, things)
            self.assertEqual(settled(act, books, things, claim)[0], told, (act, books, things, parts))
            seen.add(told)
        return seen

    def test_no_things(self):
        self.assertEqual([("told", "never")], clerk(ACT, {}, 0, "c"))
        self.assertEqual([("told", "must")], clerk(ACT, {}, 0, "d"))

    def test_one_thing(self):
        for claim, words in (("c", {"open", "must"}), ("d", {"open", "never"})):
            parts = clerk(ACT, {}, 1, claim)
            self.look_at(ACT, {}, 1, parts)
            lists = [[thing] for thing in packs_of({"a": 5})]
            self.assertEqual(words, self.same_as_settled(ACT, {}, claim, parts, lists))

    def test_an_act_without_opens(self):
        act = read_act("fact a\nfact b\nword w if ( a >= 2 or not b )\nclaim c if all w\nclaim d if some ( w or not w )")
        parts = clerk(act, {}, 2, "c")
        self.look_at(act, {}, 2, parts)
        things = packs_of({"a": 3, "b": 2})
        lists = [list(pair) for pair in itertools.product(things, repeat=2)]
        self.assertEqual({"must", "never"}, self.same_as_settled(act, {}, "c", parts, lists))
        self.assertEqual([("told", "must")], clerk(act, {}, 2, "d"))

    def test_things_compared_with_each_other(self):
        act = read_act("fact a\nopen o for a against\nclaim c if not ( some o and some not o )")
        parts = clerk(act, {}, 2, "c")
        self.look_at(act, {}, 2, parts)
        lists = [list(pair) for pair in itertools.product(packs_of({"a": 3}), repeat=2)]
        self.assertEqual({"must", "open"}, self.same_as_settled(act, {}, "c", parts, lists))
        self.assertIn("as", [part[0] for part in parts])

    def test_books(self):
        act = read_act("fact a\nopen o for a against\nclaim c if some o")
        books = {"o": [(((("a", 2),), ()), "for", (("a", 2),)), (((("a", 1),), ()), "against", ())]}
        for many in (1, 2):
            parts = clerk(act, books, many, "c")
            self.look_at(act, books, many, parts)
            lists = [list(one) for one in itertools.product(packs_of({"a": 4}), repeat=many)]
            self.assertEqual({"must", "never"}, self.same_as_settled(act, books, "c", parts, lists))

    def test_degrees_of_the_top(self):
        act = read_act(f"fact a\nfact b\nopen o for a against b\nclaim c if some o")
        books = {"o": [(((("a", TOP),), (("b", TOP),)), "for", (("a", TOP),)), (((("a", 5),), ()), "against", ())]}
        parts = clerk(act, books, 2, "c")
        self.look_at(act, books, 2, parts)
        ends = [tuple((name, amount) for name, amount in zip("ab", amounts) if amount)
                for amounts in itertools.product((0, 1, 5, 6, TOP - 1, TOP), repeat=2)]
        lists = [list(pair) for pair in itertools.product(ends, repeat=2)]
        self.assertEqual({"must", "never", "open"}, self.same_as_settled(act, books, "c", parts, lists))

    def test_names_that_are_no_facts_do_not_count(self):
        parts = clerk(ACT, {}, 1, "d")
        for thing in ((("o", 5),), (("a", 1), ("o", 1)), (("a", 2), ("w", 1), ("z", 9))):
            self.assertEqual(settled(ACT, {}, [thing], "d")[0], asked(parts, [thing]))

    def test_acts_and_books_by_chance(self):
        chance = random.Random(1)
        refused, told, words, kinds = 0, 0, set(), set()
        for turn in range(260):
            rows = chance.choice((
                ("open", "claim"), ("open", "word", "claim"), ("word", "claim"), ("open", "open", "claim"),
                ("open", "word", "open", "claim"), ("word", "word", "claim", "claim"), ("open", "open", "word", "claim")))
            facts = chance.choice((["a"], ["a", "b"]))
            text = some_act(chance, facts, rows, 3)
            if "open" in rows:
                # A claim for which it counts whether the things are alike.
                text += f"\nclaim x if {chance.choice(('', 'not '))}( some o and some not {chance.choice(('o', 'o', 'a'))} )"
            act = read_act(text)
            books = some_books(chance, act, chance.randint(0, 2), 2)
            many = chance.randint(0, 3)
            claim = chance.choice([row[1] for row in act if row[0] == "claim"])
            if too_much(act, books, many):
                assert_refused(self, TooMuch, clerk, act, books, many, claim)
                refused += 1
                continue
            parts = clerk(act, books, many, claim)
            self.look_at(act, books, many, parts)
            lists = [[some_pack(chance, {"a": 3, "b": 3}) for thing in range(many)] for turn in range(60)]
            words |= self.same_as_settled(act, books, claim, parts, lists)
            kinds |= {part[0] for part in parts}
            told += len(parts) > 1
        self.assertLess(20, refused)
        self.assertLess(80, told)
        self.assertEqual(({"must", "never", "open"}, {"told", "least", "as"}), (words, kinds))


class Refused(unittest.TestCase):
    def test_unknown(self):
        for name in ("w", "o", "a", "e", ""):
            self.assertEqual(name, assert_refused(self, Unknown, clerk, ACT, {}, 1, name).name)
            self.assertEqual(name, assert_refused(self, Unknown, clerk, ACT, {}, 9, name).name)

    def asking_for(self, marks, opens):
        rows = ["fact a"] + [f"open {name} for against" for name in "opqr"[:opens]]
        rows += [f"word w{letter} if a >= {k + 1}" for k, letter in enumerate("abcdefghijklmno"[:marks - 1])]
        return read_act("\n".join(rows + [f"claim c if some a >= {marks}"]))

    def test_fourteen_and_fifteen(self):
        # Questions that can come, opens, things.
        for marks, opens, many in ((14, 0, 1), (13, 1, 1), (10, 4, 1), (7, 0, 2), (6, 1, 2), (3, 4, 2), (2, 0, 6), (1, 1, 6)):
            act = self.asking_for(marks, opens)
            self.assertLessEqual(marks * many + opens * many, 14)
            parts = clerk(act, {}, many, "c")
            lists = [[(("a", amount),)] * many for amount in (marks - 1, marks, TOP) if amount]
            for things in lists:
                self.assertEqual(settled(act, {}, things, "c")[0], asked(parts, things))
        for marks, opens, many in ((15, 0, 1), (14, 1, 1), (11, 4, 1), (5, 0, 3), (4, 1, 3), (3, 0, 6), (2, 1, 6)):
            self.assertLess(14, marks * many + opens * many)
            assert_refused(self, TooMuch, clerk, self.asking_for(marks, opens), {}, many, "c")

    def test_all_words_and_claims_count_each_once(self):
        # The claim asks for none of these, but they can come.
        text = "fact a\nword w if ( a >= 2 and a >= 3 )\nclaim c if some w\nclaim d if all a >= {0}\nclaim e if some a >= {1}"
        for first, second, many in ((2, 3, 6), (2, 5, 4), (4, 5, 3)):
            clerk(read_act(text.format(first, second)), {}, many, "c")
        for first, second, many in ((2, 5, 5), (4, 5, 4)):
            assert_refused(self, TooMuch, clerk, read_act(text.format(first, second)), {}, many, "c")

    def test_comparisons_count(self):
        # Two things: two uses, and two comparisons for each fact of the lists.
        facts = "\n".join(f"fact {name}" for name in "abdefgh")
        for names, told in (("abdefg", True), ("abdefgh", False)):
            act = read_act(facts + f"\nopen o for {' '.join(names[:3])} against {' '.join(names)}\nclaim c if some o")
            if told:
                self.assertEqual([("told", "open")], clerk(act, {}, 2, "c"))
            else:
                assert_refused(self, TooMuch, clerk, act, {}, 2, "c")

    def test_the_books_count(self):
        act = read_act("fact a\nfact b\nopen o for a against b\nclaim c if some o")
        ruled = [(((("a", k),), (("b", k),)), "for", (("a", k),)) for k in range(1, 8)]
        # One thing: one use, and two questions for each ruling.
        self.assertLess(2, len(clerk(act, {"o": ruled[:6]}, 1, "c")))
        assert_refused(self, TooMuch, clerk, act, {"o": ruled}, 1, "c")
        # Above the top nothing is asked.
        top = [(((("a", k),), (("b", TOP),)), "for", (("a", k),)) for k in range(1, 14)]
        self.assertLess(2, len(clerk(act, {"o": top}, 1, "c")))
        self.assertLess(2, len(clerk(act, {"other": ruled, "o": ruled[:1]}, 1, "c")))

    def test_a_degree_of_nought_counts_one_above_it(self):
        act = read_act("fact a\nopen o for against a\nclaim c if some o")
        books = {"o": [(((), ()), "for", ())]}
        self.assertEqual({"must", "open"}, self.words_of(clerk(act, books, 1, "c")))
        self.assertEqual(("must", "open"), tuple(asked(clerk(act, books, 1, "c"), [one]) for one in ((), (("a", 1),))))

    def words_of(self, parts):
        return {part[1] for part in parts if part[0] == "told"}

    def test_too_much_where_the_readings_would_be(self):
        act = read_act("\n".join([f"open {name} for against" for name in "opqr"] + ["claim c if some o"]))
        self.assertEqual([("told", "open")], clerk(act, {}, 2, "c"))
        assert_refused(self, TooMuch, clerk, act, {}, 3, "c")
        assert_refused(self, TooMuch, clerk, act[:3] + act[4:], {}, 3, "c")


class HandedIn(unittest.TestCase):
    def test_nothing_is_changed_and_each_told_list_is_the_askers_own(self):
        books = {"o": [(((("a", 2),), ()), "for", (("a", 2),))]}
        act = copy.deepcopy(ACT)
        before = copy.deepcopy(books)
        first, second = clerk(act, books, 2, "c"), clerk(act, books, 2, "c")
        first.append("more")
        first[0] = None
        self.assertEqual(second, clerk(act, books, 2, "c"))
        self.assertEqual((ACT, before), (act, books))
        books["o"].append((((), ()), "for", ()))
        self.assertNotEqual(second, clerk(act, books, 2, "c"))

    def test_arguments_bear_the_told_names(self):
        self.assertEqual([("told", "never")], clerk(act=ACT, books={}, many=0, claim="c"))


if __name__ == "__main__":
    unittest.main()
