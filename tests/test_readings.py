import copy
import itertools
import random
import unittest

from likebook.actreader import read_act
from likebook.books import barred, torn
from likebook.errors import TooMuch, Unknown
from likebook.holding import case_of, holds, of_facts, so
from likebook.readings import asking_of, entered, readings, settled
from kinds import assert_refused, is_bound_by, is_within, some_act, some_books, some_pack

TOP = 10 ** 30
ACT = read_act(
    "fact armed\nfact late\nopen cruel for armed against late\nword harsh if ( cruel and not late >= 3 )\n"
    "claim freed if not some harsh\nclaim held if all cruel\nclaim sure if some armed")
ARMED = (("armed", 2),)
LATE = (("late", 1),)
PRO = (((("armed", 1),), (("late", 1),)), "for", (("armed", 1),))


def entry(number, fors, againsts, side):
    return ("cruel", number, ((fors, againsts), side, fors if side == "for" else againsts))


def dealt_out(act, books, things):
    """The document's last words on readings, apart from the program: each way to deal out the open words among the
    things that keeps the likes together and leaves the cases that the books bind as they are bound. Told are the lists
    of the words that hold of each thing, those ways ahead in which an earlier open word holds of an earlier thing."""
    opens = [row for row in act if row[0] == "open"]
    ways = []
    for dealt in itertools.product((True, False), repeat=len(opens) * len(things)):
        holding = [[] for thing in things]
        left = list(dealt)
        good = True
        for row in act:
            if row[0] == "word":
                for thing, words in zip(things, holding):
                    if holds(row[2], thing, words):
                        words.append(row[1])
            elif row[0] == "open":
                cases = [case_of(row, thing, words) for thing, words in zip(things, holding)]
                mine = [left.pop(0) for thing in things]
                good = good and is_kept(cases, mine) and is_left(books.get(row[1], []), cases, mine)
                for yes, words in zip(mine, holding):
                    words.extend([row[1]] * yes)
        if good:
            ways.append(holding)
    return ways


def is_kept(cases, mine):
    return not any(
        yes and not other_yes and is_within(case[0], other[0]) and is_within(other[1], case[1])
        for case, yes in zip(cases, mine) for other, other_yes in zip(cases, mine))


def is_left(book, cases, mine):
    return all((one[1] == "for") == yes for one in book for case, yes in zip(cases, mine) if is_bound_by(one, case))


def some_things(chance, number, top):
    return [some_pack(chance, {"a": top, "b": top, "z": 3}) for turn in range(number)]


def worlds(seed, number):
    chance = random.Random(seed)
    for turn in range(number):
        kinds = chance.choice((
            ("open", "word", "open", "claim"), ("open", "open", "claim", "word"), ("open", "claim"), ("word", "claim"),
            ("open", "word", "open", "word", "claim", "claim"), ("open", "open", "open", "claim"),
            ("open", "word", "open", "open", "open", "claim")))
        act = read_act(some_act(chance, ["a", "b"], kinds, 3))
        books = some_books(chance, act, chance.randint(0, 3), 3)
        most = 8 // kinds.count("open") if kinds.count("open") > 1 else 4
        things = some_things(chance, chance.randint(0, most), 3)
        yield act, books, things


class Readings(unittest.TestCase):
    def test_no_things(self):
        self.assertEqual([([], [])], readings(ACT, {}, []))

    def test_one_thing_read_both_ways(self):
        self.assertEqual(
            [([entry(0, ARMED, (), "for")], [["cruel", "harsh"]]), ([entry(0, ARMED, (), "against")], [[]])],
            readings(ACT, {}, [ARMED]))

    def test_kinds(self):
        told = readings(ACT, {}, [ARMED])
        self.assertEqual((list, tuple, list, list), (type(told), type(told[0]), type(told[0][0]), type(told[0][1])))
        self.assertEqual((tuple, list), (type(told[0][0][0]), type(told[0][1][0])))

    def test_bound_by_the_book(self):
        self.assertEqual([([], [["cruel", "harsh"]])], readings(ACT, {"cruel": [PRO]}, [ARMED]))
        contra = (PRO[0], "against", ())
        self.assertEqual([([], [[]])], readings(ACT, {"cruel": [contra]}, [LATE]))
        self.assertEqual(2, len(readings(ACT, {"cruel": [contra]}, [ARMED])))

    def test_bound_by_the_readings_own_rulings(self):
        more = (("armed", 3),)
        told = readings(ACT, {}, [ARMED, more])
        self.assertEqual([
            ([entry(0, ARMED, (), "for")], [["cruel", "harsh"]] * 2),
            ([entry(0, ARMED, (), "against"), entry(1, more, (), "for")], [[], ["cruel", "harsh"]]),
            ([entry(0, ARMED, (), "against"), entry(1, more, (), "against")], [[], []]),
        ], told)
        # The other way round it is the second choice that binds.
        self.assertEqual([[1, 1], [1, 0], [0, 0]], self.held(readings(ACT, {}, [more, ARMED])))

    def held(self, told):
        return [[int("cruel" in words) for words in holding] for rulings, holding in told]

    def test_equal_things_are_settled_alike(self):
        self.assertEqual([[1] * 6, [0] * 6], self.held(readings(ACT, {}, [LATE] * 6)))

    def test_words_that_are_not_in_the_books_have_the_empty_one(self):
        self.assertEqual(readings(ACT, {"cruel": []}, [ARMED]), readings(ACT, {}, [ARMED]))
        self.assertEqual(readings(ACT, {}, [ARMED]), readings(ACT, {"other": [PRO]}, [ARMED]))

    def test_an_act_without_opens(self):
        act = read_act("fact a\nword w if a >= 2\nclaim c if some w")
        self.assertEqual([([], [[], ["w"], []])], readings(act, {}, [(("a", 1),), (("a", 2),), ()]))

    def test_degrees_of_names_that_are_no_facts_do_not_count(self):
        thing = (("armed", 2), ("cruel", 1), ("harsh", 9), ("other", 4))
        self.assertEqual(readings(ACT, {}, [ARMED]), readings(ACT, {}, [thing]))
        act = read_act("fact a\nopen o for a against\nopen p for o a against\nclaim c if some p")
        self.assertEqual(readings(act, {}, [(("a", 1),)]), readings(act, {}, [(("a", 1), ("o", 7), ("p", 1))]))

    def test_rows_in_order_and_things_in_order(self):
        act = read_act("fact a\nopen o for a against\nword w if o\nopen p for w against a\nclaim c if some p")
        told = readings(act, {}, [(("a", 1),), ()])
        first = told[0]
        self.assertEqual([("o", 0), ("o", 1), ("p", 0)], [one[:2] for one in first[0]])
        self.assertEqual([("o", 0), ("o", 1), ("p", 0), ("p", 1)], [one[:2] for one in told[2][0]])
        self.assertEqual([["o", "w", "p"], ["o", "w", "p"]], first[1])
        self.assertEqual(((("w", 1),), (("a", 1),)), first[0][2][2][0])

    def test_things_of_the_top(self):
        one, other = (("armed", TOP),), (("armed", TOP - 1),)
        self.assertEqual([[1, 1], [1, 0], [0, 0]], self.held(readings(ACT, {}, [one, other])))

    def test_opens_times_things_of_8_and_of_9(self):
        for opens, things in ((1, 8), (2, 4), (4, 2), (0, 12)):
            act = read_act("\n".join(["fact a"] + [f"open {name} for a against" for name in "opqr"[:opens]]))
            self.assertLessEqual(1, len(readings(act, {}, [()] * things)))
        for opens, things in ((1, 9), (2, 5), (3, 3), (4, 3), (2, 6)):
            act = read_act("\n".join(["fact a"] + [f"open {name} for a against" for name in "opqr"[:opens]]))
            assert_refused(self, TooMuch, readings, act, {}, [()] * things)

    def test_two_hundred_and_fifty_six_readings(self):
        act = read_act("\n".join(["fact a", "fact b"] + [f"open {name} for a b against" for name in "opqr"]))
        told = readings(act, {}, [(("a", 1),), (("b", 1),)])
        self.assertEqual(256, len(told))
        self.assertEqual(dealt_out(act, {}, [(("a", 1),), (("b", 1),)]), [holding for rulings, holding in told])

    def test_each_way_to_deal_out_the_open_words_is_that_of_just_one_reading(self):
        many = 0
        for act, books, things in worlds(1, 150):
            told = readings(act, books, things)
            known = [of_facts(act, thing) for thing in things]
            self.assertEqual(dealt_out(act, books, known), [holding for rulings, holding in told])
            many += len(told) > 1
        self.assertLess(60, many)

    def test_the_rulings_of_a_reading_are_allowed_one_after_the_other(self):
        for act, books, things in worlds(2, 80):
            known = [of_facts(act, thing) for thing in things]
            rows = {row[1]: row for row in act}
            for rulings, holding in readings(act, books, things):
                grown = {word: list(book) for word, book in books.items()}
                places = [(list(rows).index(word), number) for word, number, one in rulings]
                self.assertEqual(sorted(set(places)), places)
                for word, number, one in rulings:
                    self.assertIsNone(barred(grown[word], one))
                    grown[word].append(one)
                    ahead = [other for other in holding[number] if list(rows).index(other) < list(rows).index(word)]
                    case = case_of(rows[word], known[number], ahead)
                    side = "for" if word in holding[number] else "against"
                    self.assertEqual((case, side, case[0] if side == "for" else case[1]), one)


class Settled(unittest.TestCase):
    def test_asking_of(self):
        self.assertEqual(("all", ("is", "cruel")), asking_of(ACT, "held"))
        self.assertEqual(("not", ("some", ("is", "harsh"))), asking_of(ACT, "freed"))
        for name in ("cruel", "armed", "harsh", "none", "Held", ""):
            self.assertEqual(name, assert_refused(self, Unknown, asking_of, ACT, name).name)
            self.assertEqual(name, assert_refused(self, Unknown, settled, ACT, {}, [], name).name)

    def test_must_and_never(self):
        self.assertEqual(("must", []), settled(ACT, {}, [ARMED], "sure"))
        self.assertEqual(("never", []), settled(ACT, {}, [LATE], "sure"))
        self.assertEqual(("never", []), settled(ACT, {"cruel": [PRO]}, [ARMED], "freed"))
        self.assertEqual(("must", []), settled(ACT, {"cruel": [PRO]}, [ARMED, ARMED], "held"))

    def test_open(self):
        told = readings(ACT, {}, [ARMED])
        self.assertEqual(("open", [told[1], told[0]]), settled(ACT, {}, [ARMED], "freed"))
        self.assertEqual(("open", [told[0], told[1]]), settled(ACT, {}, [ARMED], "held"))

    def test_no_things(self):
        self.assertEqual(("must", []), settled(ACT, {}, [], "held"))
        self.assertEqual(("must", []), settled(ACT, {}, [], "freed"))
        self.assertEqual(("never", []), settled(ACT, {}, [], "sure"))

    def test_the_first_readings_are_told(self):
        things = [ARMED, (("late", 1),), (("armed", 1), ("late", 4))]
        told = readings(ACT, {}, things)
        self.assertLess(3, len(told))
        for claim in ("freed", "held"):
            asking = asking_of(ACT, claim)
            first = [[one for one in told if so(asking, things, one[1]) is way][0] for way in (True, False)]
            self.assertEqual(("open", first), settled(ACT, {}, things, claim))

    def test_unknown_ahead_of_too_much(self):
        assert_refused(self, Unknown, settled, ACT, {}, [()] * 9, "none")
        assert_refused(self, TooMuch, settled, ACT, {}, [()] * 9, "held")
        self.assertEqual("must", settled(ACT, {"cruel": [((((("armed", 1),)), ()), "for", ())]}, [()] * 6, "held")[0])

    def test_the_documents_words_for_acts_by_chance(self):
        seen = set()
        for act, books, things in worlds(3, 150):
            known = [of_facts(act, thing) for thing in things]
            told = readings(act, books, things)
            for row in act:
                if row[0] == "claim":
                    ways = [so(row[2], known, holding) for rulings, holding in told]
                    answer = settled(act, books, things, row[1])
                    if all(ways):
                        self.assertEqual(("must", []), answer)
                    elif not any(ways):
                        self.assertEqual(("never", []), answer)
                    else:
                        self.assertEqual(("open", [told[ways.index(True)], told[ways.index(False)]]), answer)
                    seen.add(answer[0])
        self.assertEqual({"must", "never", "open"}, seen)


class Entered(unittest.TestCase):
    def test_behind_each_words_book(self):
        reading = readings(ACT, {"cruel": [PRO]}, [(("late", 5),)])[1]
        told = entered({"cruel": [PRO], "other": [PRO]}, reading)
        self.assertEqual({"cruel": [PRO, reading[0][0][2]], "other": [PRO]}, told)

    def test_a_word_that_is_not_in_the_books(self):
        reading = readings(ACT, {}, [ARMED, LATE])[0]
        self.assertEqual({"cruel": [one[2] for one in reading[0]]}, entered({}, reading))

    def test_a_reading_without_rulings(self):
        self.assertEqual({}, entered({}, ([], [])))
        self.assertEqual({"cruel": [PRO]}, entered({"cruel": [PRO]}, ([], [[]])))

    def test_entered_it_settles_every_claim_as_it_says(self):
        for act, books, things in worlds(4, 80):
            known = [of_facts(act, thing) for thing in things]
            for reading in readings(act, books, things):
                grown = entered(books, reading)
                self.assertEqual([([], reading[1])], readings(act, grown, things))
                for book in grown.values():
                    self.assertIsNone(torn(book))
                for row in act:
                    if row[0] == "claim":
                        word = "must" if so(row[2], known, reading[1]) else "never"
                        self.assertEqual((word, []), settled(act, grown, things, row[1]))


class HandedIn(unittest.TestCase):
    def test_nothing_is_changed(self):
        act, books, things = copy.deepcopy((ACT, {"cruel": [PRO]}, [ARMED, (("late", 4), ("other", 2))]))
        before = copy.deepcopy((act, books, things))
        told = readings(act, books, things)
        settled(act, books, things, "held")
        entered(books, told[0])
        self.assertEqual(before, (act, books, things))
        self.assertEqual(told, readings(act, books, things))

    def test_each_told_list_is_the_askers_own(self):
        things = [ARMED, LATE]
        for ask in (lambda: readings(ACT, {}, things), lambda: settled(ACT, {}, things, "held")[1]):
            first, second = ask(), ask()
            seen = [id(first)]
            for rulings, holding in first:
                seen.extend([id(rulings), id(holding)] + [id(words) for words in holding])
            self.assertEqual(len(set(seen)), len(seen))
            for rulings, holding in first:
                rulings.append("more")
                for words in holding:
                    words.append("more")
                holding.append("more")
            first.append("more")
            self.assertEqual(second, ask())
        for claim in ("sure", "held"):
            settled(ACT, {}, [], claim)[1].append("more")
            self.assertEqual([], settled(ACT, {}, [], claim)[1])

    def test_an_entered_dict_and_its_lists_are_the_askers_own(self):
        books = {"cruel": [PRO], "other": [PRO]}
        reading = readings(ACT, books, [(("late", 5),)])[0]
        for handed in (reading, ([], [[]])):
            told = entered(books, handed)
            told["cruel"].append("more")
            told["other"].append("more")
            told["new"] = []
            self.assertEqual({"cruel": [PRO], "other": [PRO]}, books)
        told = entered(books, reading)
        books["other"].append("more")
        books["cruel"].clear()
        self.assertEqual({"cruel": [PRO, reading[0][0][2]], "other": [PRO]}, told)
        self.assertEqual(1, len(reading[0]))

    def test_arguments_bear_the_told_names(self):
        self.assertEqual([([], [])], readings(act=ACT, books={}, things=[]))
        self.assertEqual(("all", ("is", "cruel")), asking_of(act=ACT, claim="held"))
        self.assertEqual(("must", []), settled(act=ACT, books={}, things=[], claim="held"))
        self.assertEqual({}, entered(books={}, reading=([], [])))


if __name__ == "__main__":
    unittest.main()
