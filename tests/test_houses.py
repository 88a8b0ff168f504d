import copy
import random
import unittest

from likebook.courts import Courts
from likebook.errors import BookError, Late, NoCourt, NoReason, NoRuling, NoSide, NotAllowed, NotYours
from likebook.houses import House
from kinds import (
    assert_refused, cases_of, is_bound_by, is_within, no_courts, no_sides, own_pack, some_ruling,
    stand_against,
)

PAIRS = [("high", None), ("low", "high"), ("side", "high"), ("least", "low"), ("island", None)]
ABOVE = dict(PAIRS)
NAMES = [court for court, above in PAIRS]
WORDS = ("cruel", "late")
FORS = {"a": 2, "b": 1}
AGAINSTS = {"b": 1, "c": 1}
CASES = cases_of(FORS, AGAINSTS)
A = (("a", 1),)
C = (("c", 1),)
CASE = (A, C)
PRO = (CASE, "for", A)
CONTRA = (CASE, "against", C)


def house(*pairs):
    return House(Courts(list(pairs) or PAIRS))


def line(court, above=ABOVE):
    return [court] + (line(above[court], above) if above[court] is not None else [])


class Told:
    """The document's words on houses, apart from the program: all deeds are kept and gone through anew."""

    def __init__(self):
        self.above = dict(PAIRS)
        self.deeds = []

    def stood(self, day):
        """The entries (number, court, word, ruling) that stood when all deeds of the days up to this one were done."""
        standing, number = [], 0
        for deed in self.deeds:
            if day is not None and deed[1] > day:
                break
            if deed[0] == "enter":
                mine = deed[2]
                standing = [
                    one for one in standing
                    if not (one[2] == deed[3] and stand_against(one[3], deed[4]) and one[1] != mine
                            and mine in line(one[1], self.above))
                ]
                standing.append((number, mine, deed[3], deed[4]))
                number += 1
            else:
                standing = [one for one in standing if one[0] != deed[3]]
        return standing

    def standing(self, court, word, day=None):
        return [one for one in self.stood(day) if one[2] == word and one[1] in line(court, self.above)]

    def refusal(self, deed):
        """The name of the refusal, and its field by, or None."""
        kind, day, court = deed[:3]
        if court not in self.above:
            return ("NoCourt", None)
        if any(done[1] > day for done in self.deeds):
            return ("Late", None)
        if kind == "enter":
            case, side, reason = deed[4]
            if side not in ("for", "against"):
                return ("NoSide", None)
            if not is_within(reason, own_pack(case, side)):
                return ("NoReason", None)
            bars = [one[0] for one in self.standing(court, deed[3]) if stand_against(one[3], deed[4])]
            return ("NotAllowed", bars[0]) if bars else None
        owners = {one[0]: one[1] for one in self.stood(None)}
        if deed[3] not in owners:
            return ("NoRuling", None)
        return None if court in line(owners[deed[3]], self.above) else ("NotYours", None)


class Entered(unittest.TestCase):
    def test_numbers_from_0_on_over_all_courts_and_words(self):
        one = house()
        self.assertEqual(0, one.enter(0, "low", "cruel", *PRO))
        self.assertEqual(1, one.enter(0, "high", "late", *CONTRA))
        self.assertEqual(2, one.enter(3, "low", "cruel", *PRO))
        self.assertEqual(PRO, one.ruling_of(0))
        self.assertEqual(CONTRA, one.ruling_of(1))

    def test_at_first_none_stands(self):
        one = house()
        for court in NAMES:
            self.assertEqual([], one.standing(court, "cruel"))
            self.assertEqual([], one.standing(court, "cruel", 5))
            self.assertEqual([], one.book(court, "cruel"))
            self.assertIsNone(one.bound(court, "cruel", CASE))
            self.assertIsNone(one.bound(court, "cruel", CASE, 0))

    def test_what_stands_for_a_court_is_of_its_line_and_of_the_word(self):
        one = house()
        for court in ("high", "low", "side", "island", "least"):
            one.enter(1, court, "cruel", *PRO)
        self.assertEqual([0], one.standing("high", "cruel"))
        self.assertEqual([0, 1], one.standing("low", "cruel"))
        self.assertEqual([0, 2], one.standing("side", "cruel"))
        self.assertEqual([3], one.standing("island", "cruel"))
        self.assertEqual([0, 1, 4], one.standing("least", "cruel"))
        self.assertEqual([], one.standing("low", "late"))
        self.assertEqual([PRO, PRO, PRO], one.book("least", "cruel"))
        self.assertEqual([], one.book("least", "late"))

    def test_courts_beside_each_other_may_rule_otherwise(self):
        one = house()
        one.enter(1, "low", "cruel", *PRO)
        self.assertEqual(1, one.enter(1, "side", "cruel", *CONTRA))
        self.assertEqual(2, one.enter(1, "island", "cruel", *CONTRA))
        self.assertEqual([0], one.standing("low", "cruel"))
        self.assertEqual([1], one.standing("side", "cruel"))
        self.assertEqual(("for", 0), one.bound("low", "cruel", CASE))
        self.assertEqual(("against", 1), one.bound("side", "cruel", CASE))
        self.assertIsNone(one.bound("high", "cruel", CASE))

    def test_a_lower_court_is_bound_by_those_above(self):
        one = house()
        one.enter(1, "high", "cruel", *PRO)
        for court in ("high", "low", "side", "least"):
            self.assertEqual(0, assert_refused(self, NotAllowed, one.enter, 1, court, "cruel", *CONTRA).by)
        self.assertEqual(1, one.enter(1, "low", "late", *CONTRA))
        self.assertEqual(2, one.enter(1, "island", "cruel", *CONTRA))

    def test_by_is_the_least_number_that_stands_for_the_court_about_the_word(self):
        one = house()
        one.enter(1, "side", "cruel", *PRO)
        one.enter(1, "low", "late", *PRO)
        one.enter(1, "low", "cruel", *PRO)
        one.enter(1, "high", "cruel", *PRO)
        self.assertEqual(2, assert_refused(self, NotAllowed, one.enter, 1, "low", "cruel", *CONTRA).by)
        self.assertEqual(3, assert_refused(self, NotAllowed, one.enter, 1, "high", "cruel", *CONTRA).by)
        one.overrule(2, "low", 2)
        self.assertEqual(3, assert_refused(self, NotAllowed, one.enter, 2, "low", "cruel", *CONTRA).by)

    def test_those_of_lower_courts_fall(self):
        one = house()
        for court in ("low", "side", "least", "island"):
            one.enter(3, court, "cruel", *PRO)
        one.enter(3, "low", "late", *PRO)
        one.enter(4, "low", "cruel", ((("x", 1),), ()), "for", (("x", 1),))
        self.assertEqual(6, one.enter(5, "high", "cruel", *CONTRA))
        for number, court in ((0, "low"), (1, "side"), (2, "least")):
            self.assertEqual([("entered", 3, court), ("fell", 5, 6)], one.fate(number))
        # Another line, another word, one that doesn't stand against it.
        self.assertEqual([("entered", 3, "island")], one.fate(3))
        self.assertEqual([("entered", 3, "low")], one.fate(4))
        self.assertEqual([("entered", 4, "low")], one.fate(5))
        self.assertEqual([5, 6], one.standing("low", "cruel"))

    def test_a_middle_court_fells_below_alone(self):
        one = house()
        one.enter(1, "least", "cruel", *PRO)
        one.enter(1, "side", "cruel", *PRO)
        one.enter(2, "low", "cruel", *CONTRA)
        self.assertEqual([("entered", 1, "least"), ("fell", 2, 2)], one.fate(0))
        self.assertEqual([("entered", 1, "side")], one.fate(1))

    def test_the_empty_pack_as_a_reason_and_as_what_is_opposed(self):
        one = house()
        one.enter(0, "low", "cruel", ((), ()), "for", ())
        self.assertEqual(("for", 0), one.bound("low", "cruel", (A, ())))
        self.assertIsNone(one.bound("low", "cruel", (A, C)))
        self.assertEqual(0, assert_refused(self, NotAllowed, one.enter, 0, "low", "cruel", ((), ()), "against", ()).by)

    def test_what_fell_or_was_overruled_never_stands_again(self):
        one = house()
        one.enter(1, "low", "cruel", *PRO)
        one.enter(2, "high", "cruel", *CONTRA)
        one.overrule(3, "high", 1)
        for day in (None, 3, 4, 99):
            self.assertEqual([], one.standing("low", "cruel", day))
        self.assertEqual([("entered", 1, "low"), ("fell", 2, 1)], one.fate(0))
        assert_refused(self, NoRuling, one.overrule, 3, "low", 0)
        assert_refused(self, NoRuling, one.overrule, 3, "high", 1)
        self.assertEqual(2, one.enter(3, "low", "cruel", *PRO))
        self.assertEqual([2], one.standing("low", "cruel"))
        # One that was overruled doesn't fall, and bars nothing.
        one.overrule(4, "low", 2)
        self.assertEqual(3, one.enter(4, "high", "cruel", *CONTRA))
        self.assertEqual([("entered", 3, "low"), ("overruled", 4, "low")], one.fate(2))

    def test_overruled_by_each_court_of_the_line(self):
        for court in ("least", "low", "high"):
            one = house()
            one.enter(1, "least", "cruel", *PRO)
            self.assertIsNone(one.overrule(2, court, 0))
            self.assertEqual([("entered", 1, "least"), ("overruled", 2, court)], one.fate(0))
            self.assertEqual([], one.standing("least", "cruel"))

    def test_not_yours(self):
        one = house()
        one.enter(1, "low", "cruel", *PRO)
        for court in ("side", "least", "island"):
            assert_refused(self, NotYours, one.overrule, 1, court, 0)
        self.assertEqual([0], one.standing("low", "cruel"))


class Founded(unittest.TestCase):
    def test_founded_one_by_one(self):
        one = house(("high", None))
        self.assertIsNone(one.founded("low", "high"))
        self.assertIsNone(one.founded("island"))
        self.assertIsNone(one.founded("least", above="low"))
        one.enter(1, "high", "cruel", *PRO)
        self.assertEqual([0], one.standing("least", "cruel"))
        self.assertEqual([], one.standing("island", "cruel"))

    def test_no_courts_at_first(self):
        one = House(Courts([]))
        assert_refused(self, NoCourt, one.standing, "high", "cruel")
        one.founded("high")
        self.assertEqual([], one.standing("high", "cruel"))

    def test_founded_later_it_has_what_stands_above_it(self):
        one = house()
        one.enter(1, "low", "cruel", *PRO)
        one.founded("new", "low")
        self.assertEqual([0], one.standing("new", "cruel"))
        self.assertEqual(0, assert_refused(self, NotAllowed, one.enter, 1, "new", "cruel", *CONTRA).by)

    def test_refused(self):
        one = house()
        for court in NAMES:
            assert_refused(self, NoCourt, one.founded, court)
            assert_refused(self, NoCourt, one.founded, court, "high")
        for thing in no_courts():
            if thing is not None:
                assert_refused(self, NoCourt, one.founded, "new", thing)
        assert_refused(self, NoCourt, one.founded, "new", "new")
        assert_refused(self, NoCourt, one.standing, "new", "cruel")

    def test_the_courts_that_were_handed_in_stay_as_they_are(self):
        courts = Courts(PAIRS)
        one, other = House(courts), House(courts)
        one.founded("new", "low")
        assert_refused(self, NoCourt, courts.line, "new")
        assert_refused(self, NoCourt, other.standing, "new", "cruel")


class Days(unittest.TestCase):
    def test_what_stood_on_each_day(self):
        one = house()
        one.enter(0, "low", "cruel", *PRO)
        one.enter(3, "low", "cruel", *PRO)
        one.enter(3, "high", "cruel", *CONTRA)
        one.enter(5, "low", "cruel", *CONTRA)
        one.overrule(7, "high", 2)
        for day, stood in ((0, [0]), (1, [0]), (2, [0]), (3, [2]), (4, [2]), (5, [2, 3]), (6, [2, 3]), (7, [3])):
            self.assertEqual(stood, one.standing("low", "cruel", day))
        self.assertEqual([3], one.standing("low", "cruel", 10 ** 30))
        self.assertEqual([3], one.standing("low", "cruel"))
        self.assertEqual([CONTRA], one.book("low", "cruel"))
        self.assertEqual(("for", 0), one.bound("low", "cruel", CASE, 2))
        self.assertEqual(("against", 2), one.bound("low", "cruel", CASE, 6))
        self.assertEqual(("against", 3), one.bound("low", "cruel", CASE))
        self.assertEqual(("against", 3), one.bound("low", "cruel", CASE, day=9))

    def test_ahead_of_the_first_deed(self):
        one = house()
        one.enter(4, "low", "cruel", *PRO)
        for day in (0, 3):
            self.assertEqual([], one.standing("low", "cruel", day))
            self.assertIsNone(one.bound("low", "cruel", CASE, day))
        self.assertEqual([0], one.standing("low", "cruel", 4))

    def test_several_deeds_on_one_day(self):
        one = house()
        one.enter(4, "low", "cruel", *PRO)
        one.overrule(4, "low", 0)
        one.enter(4, "low", "cruel", *CONTRA)
        self.assertEqual([1], one.standing("low", "cruel", 4))
        self.assertEqual([], one.standing("low", "cruel", 3))
        self.assertEqual([("entered", 4, "low"), ("overruled", 4, "low")], one.fate(0))

    def test_what_bound_is_the_least_number(self):
        one = house()
        one.enter(1, "side", "cruel", *PRO)
        one.enter(1, "low", "cruel", ((("x", 1),), ()), "for", (("x", 1),))
        one.enter(1, "low", "cruel", *PRO)
        one.enter(1, "high", "cruel", *PRO)
        self.assertEqual(("for", 2), one.bound("low", "cruel", CASE))
        self.assertEqual(("for", 3), one.bound("high", "cruel", CASE))

    def test_late(self):
        one = house()
        one.enter(5, "low", "cruel", *PRO)
        for day in (0, 4):
            assert_refused(self, Late, one.enter, day, "island", "late", *CONTRA)
            assert_refused(self, Late, one.overrule, day, "low", 0)
        one.overrule(8, "low", 0)
        for day in (0, 5, 7):
            assert_refused(self, Late, one.enter, day, "low", "cruel", *PRO)
        self.assertEqual(1, one.enter(8, "low", "cruel", *PRO))

    def test_a_refused_deed_makes_none_late(self):
        one = house()
        one.enter(1, "low", "cruel", *PRO)
        assert_refused(self, NotAllowed, one.enter, 9, "low", "cruel", *CONTRA)
        assert_refused(self, NoReason, one.enter, 9, "low", "cruel", CASE, "for", C)
        assert_refused(self, NoRuling, one.overrule, 9, "low", 1)
        assert_refused(self, NotYours, one.overrule, 9, "side", 0)
        self.assertEqual(1, one.enter(1, "low", "cruel", *PRO))

    def test_founding_is_no_deed_of_a_day(self):
        one = house()
        one.enter(5, "low", "cruel", *PRO)
        one.founded("new")
        self.assertEqual(1, one.enter(5, "new", "cruel", *CONTRA))

    def test_days_somewhat_beyond_are_not_refused(self):
        one = house()
        self.assertEqual(0, one.enter(-1, "low", "cruel", *PRO))
        self.assertEqual([0], one.standing("low", "cruel", 0))
        self.assertEqual([], one.standing("low", "cruel", -2))


class Refused(unittest.TestCase):
    def test_no_court_of_any_kind(self):
        one = house()
        one.enter(1, "high", "cruel", *PRO)
        for thing in no_courts():
            assert_refused(self, NoCourt, one.enter, 1, thing, "cruel", *PRO)
            assert_refused(self, NoCourt, one.overrule, 1, thing, 0)
            assert_refused(self, NoCourt, one.standing, thing, "cruel")
            assert_refused(self, NoCourt, one.standing, thing, "cruel", 1)
            assert_refused(self, NoCourt, one.bound, thing, "cruel", CASE)
            assert_refused(self, NoCourt, one.bound, thing, "cruel", CASE, 1)
            assert_refused(self, NoCourt, one.book, thing, "cruel")
        self.assertEqual([0], one.standing("low", "cruel"))

    def test_no_side_of_any_kind(self):
        one = house()
        for thing in no_sides():
            assert_refused(self, NoSide, one.enter, 1, "low", "cruel", CASE, thing, ())
            assert_refused(self, NoSide, one.enter, 1, "low", "cruel", CASE, thing, (("z", 1),))
        self.assertEqual(0, one.enter(0, "low", "cruel", *PRO))

    def test_no_reason(self):
        one = house()
        for side, reason in (("for", C), ("against", A), ("for", (("a", 2),)), ("for", (("a", 1), ("b", 1)))):
            assert_refused(self, NoReason, one.enter, 1, "low", "cruel", CASE, side, reason)

    def test_no_ruling(self):
        one = house()
        assert_refused(self, NoRuling, one.overrule, 0, "low", 0)
        one.enter(1, "low", "cruel", *PRO)
        one.enter(1, "low", "cruel", *PRO)
        one.overrule(1, "low", 1)
        for number in (2, -1, -2, 10 ** 30, True, False, None, "0", [0]):
            assert_refused(self, NoRuling, one.overrule, 1, "low", number)
            assert_refused(self, NoRuling, one.ruling_of, number)
            assert_refused(self, NoRuling, one.fate, number)
        assert_refused(self, NoRuling, one.overrule, 1, "low", 1)
        # What stands no longer has its ruling and its fate.
        self.assertEqual(PRO, one.ruling_of(1))
        self.assertEqual([("entered", 1, "low"), ("overruled", 1, "low")], one.fate(1))

    def test_the_order_of_refusals_of_enter(self):
        one = house()
        one.enter(5, "low", "cruel", *PRO)
        assert_refused(self, NoCourt, one.enter, 1, "none", "cruel", CASE, "none", (("z", 1),))
        assert_refused(self, NoCourt, one.enter, 1, "none", "cruel", *CONTRA)
        assert_refused(self, Late, one.enter, 4, "low", "cruel", CASE, "none", (("z", 1),))
        assert_refused(self, Late, one.enter, 4, "low", "cruel", CASE, "for", (("z", 1),))
        assert_refused(self, Late, one.enter, 4, "low", "cruel", *CONTRA)
        assert_refused(self, NoSide, one.enter, 5, "low", "cruel", CASE, "none", (("z", 1),))
        assert_refused(self, NoReason, one.enter, 5, "low", "cruel", CASE, "against", (("c", 2),))
        self.assertEqual(0, assert_refused(self, NotAllowed, one.enter, 5, "low", "cruel", *CONTRA).by)

    def test_the_order_of_refusals_of_overrule(self):
        one = house()
        one.enter(5, "low", "cruel", *PRO)
        one.enter(5, "low", "cruel", *PRO)
        one.overrule(5, "low", 1)
        assert_refused(self, NoCourt, one.overrule, 1, "none", 7)
        assert_refused(self, NoCourt, one.overrule, 5, "none", 0)
        assert_refused(self, Late, one.overrule, 4, "low", 7)
        assert_refused(self, Late, one.overrule, 4, "side", 0)
        assert_refused(self, NoRuling, one.overrule, 5, "side", 7)
        assert_refused(self, NoRuling, one.overrule, 5, "side", 1)
        assert_refused(self, NotYours, one.overrule, 5, "side", 0)

    def test_what_is_refused_changes_nothing(self):
        one = house()
        one.enter(1, "low", "cruel", *PRO)
        one.enter(1, "high", "late", *PRO)
        one.enter(1, "least", "late", ((("x", 1),), ()), "for", ())
        before = self.told(one)
        for deed in (
                (one.enter, 9, "none", "cruel", *PRO), (one.enter, 0, "low", "cruel", *PRO),
                (one.enter, 9, "low", "cruel", CASE, "none", ()), (one.enter, 9, "low", "cruel", CASE, "for", C),
                (one.enter, 9, "low", "cruel", *CONTRA), (one.enter, 9, "low", "late", *CONTRA),
                (one.overrule, 9, "none", 0), (one.overrule, 0, "low", 0), (one.overrule, 9, "low", 3),
                (one.overrule, 9, "side", 0), (one.founded, "low"), (one.founded, "low", "side"),
                (one.founded, "new", "none")):
            with self.assertRaises(BookError):
                deed[0](*deed[1:])
            self.assertEqual(before, self.told(one))
        self.assertEqual(3, one.enter(1, "low", "cruel", *PRO))

    def told(self, one):
        fates = [one.fate(k) for k in range(3)]
        return fates, [one.standing(court, word) for court in NAMES for word in WORDS], one.courts.pairs_told()


class HandedIn(unittest.TestCase):
    def test_each_told_list_is_the_askers_own(self):
        one = house()
        one.enter(1, "low", "cruel", *PRO)
        asks = (
            lambda: one.standing("low", "cruel"), lambda: one.standing("low", "cruel", 1), lambda: one.fate(0),
            lambda: one.book("low", "cruel"), lambda: one.standing("low", "late"))
        for ask in asks:
            first, second = ask(), ask()
            first.append("more")
            first[0] = "other"
            self.assertEqual(second, ask())
        kept = [ask() for ask in asks]
        before = copy.deepcopy(kept)
        one.enter(2, "high", "cruel", *CONTRA)
        self.assertEqual(before, kept)
        self.assertNotEqual(before, [ask() for ask in asks])

    def test_arguments_bear_the_told_names(self):
        one = House(courts=Courts(PAIRS))
        one.founded(court="new", above="low")
        one.enter(day=1, court="low", word="cruel", case=CASE, side="for", reason=A)
        self.assertEqual([0], one.standing(court="low", word="cruel", day=1))
        self.assertEqual(("for", 0), one.bound(court="low", word="cruel", case=CASE, day=1))
        self.assertEqual([PRO], one.book(court="low", word="cruel"))
        self.assertEqual(PRO, one.ruling_of(number=0))
        one.overrule(day=1, court="low", number=0)
        self.assertEqual(2, len(one.fate(number=0)))


class Whole(unittest.TestCase):
    """Houses by chance, against the document's words."""

    def deed(self, chance, day, number):
        court = chance.choice(NAMES * 5 + ["none"])
        if chance.random() < 0.25:
            return ("overrule", day, court, chance.randint(-1, number))
        case, side, reason = some_ruling(chance, FORS, AGAINSTS)
        if chance.random() < 0.1:
            reason = (("z", 1),)
        if chance.random() < 0.1:
            side = "none"
        return ("enter", day, court, chance.choice(WORDS), (case, side, reason))

    def do(self, one, deed):
        if deed[0] == "enter":
            return one.enter(deed[1], deed[2], deed[3], *deed[4])
        return one.overrule(*deed[1:])

    def grow(self, seed):
        chance = random.Random(seed)
        one, told, day, number, seen = house(), Told(), 0, 0, set()
        for step in range(50):
            day = max(0, day + chance.choice((0, 0, 0, 1, 2, -1)))
            deed = self.deed(chance, day, number)
            refusal = told.refusal(deed)
            if refusal is None:
                self.assertEqual(number if deed[0] == "enter" else None, self.do(one, deed))
                told.deeds.append(deed)
                number += deed[0] == "enter"
            else:
                with self.assertRaises(BookError) as caught:
                    self.do(one, deed)
                self.assertEqual(refusal, (type(caught.exception).__name__, getattr(caught.exception, "by", None)))
            seen.add(refusal and refusal[0])
        self.compare(one, told, day)
        return seen

    def compare(self, one, told, last):
        for court in NAMES:
            for word in WORDS:
                self.assertEqual([entry[3] for entry in told.standing(court, word)], one.book(court, word))
                for day in [None] + list(range(0, last + 2)):
                    entries = told.standing(court, word, day)
                    self.assertEqual([entry[0] for entry in entries], one.standing(court, word, day))
                    for first in entries:
                        self.assertFalse(any(stand_against(first[3], other[3]) for other in entries))
                    for case in CASES[::7]:
                        binding = [(entry[3][1], entry[0]) for entry in entries if is_bound_by(entry[3], case)]
                        self.assertEqual(binding[0] if binding else None, one.bound(court, word, case, day))

    def test_houses_by_chance(self):
        seen = set()
        for seed in range(40):
            seen |= self.grow(seed)
        self.assertEqual(
            {None, "NoCourt", "Late", "NoSide", "NoReason", "NotAllowed", "NoRuling", "NotYours"}, seen)


if __name__ == "__main__":
    unittest.main()
