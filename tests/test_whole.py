"""What is promised over the whole program: books, houses, readings, the clerk, plans and the desk tell the same."""

import random
import unittest

from likebook.actreader import read_act
from likebook.actwriter import shown_act
from likebook.books import barred, binding, fullest, torn
from likebook.clerk import clerk
from likebook.courts import Courts
from likebook.desk import Desk
from likebook.errors import BookError, NotAllowed, TooMuch
from likebook.goings import gone, tests_of
from likebook.holding import of_facts, so
from likebook.houses import House
from likebook.needless import kept, marrow, parted
from likebook.packtexts import shown_pack
from likebook.parts import asked
from likebook.plans import far, plan
from likebook.readings import asking_of, entered, readings, settled
from likebook.reasons import least_reasons
from kinds import cases_of, own_pack, rulings_of, some_act, some_pack, some_ruling, stand_against, tops_of, whole_book

PAIRS = [("high", None), ("low", "high"), ("side", "high"), ("least", "low"), ("island", None)]
NAMES = [court for court, above in PAIRS]
FORS = {"a": 2, "b": 1}
AGAINSTS = {"b": 1, "c": 1}
CASES = cases_of(FORS, AGAINSTS)


def written(one):
    return shown_pack(one).replace(" ", ",")


def answer(call, *handed):
    """What is told, or the kind and the fields of the refusal."""
    try:
        return call(*handed)
    except BookError as refusal:
        return (type(refusal).__name__, vars(refusal))


class Bound(unittest.TestCase):
    """A case is bound to a side just where every ruling for the other side stands against some ruling that binds there."""

    def look_at(self, book):
        tests = tests_of(book)
        rest = [book[k] for k in kept(book)]
        for case in CASES:
            told = binding(book, case)
            allowed = {one[1] for one in rulings_of(case) if barred(book, one) is None}
            for side, other in (("for", "against"), ("against", "for")):
                self.assertIs(told is not None and told[0] == side, other not in allowed)
                self.assertIs(other in allowed, least_reasons(book, case, other) != [])
                self.assertIs(other in allowed, barred(book, fullest(case, other)) is None)
                distance = far(book, case, side)
                self.assertIs(told is not None and told[0] == side, distance is not None and distance[0] == 0)
                self.assertIs(told is not None and told[0] == side, plan(book, [], case, side)[0] == "bound")
            end = gone(tests, case)[0]
            self.assertEqual(told and told[0], None if end == ("free",) else end[1])
            less = binding(rest, case)
            self.assertEqual(told and told[0], less and less[0])
        self.assertIsNone(parted(book, rest))
        self.assertEqual(marrow(book), marrow(rest))

    def test_books(self):
        chance = random.Random(1)
        for turn in range(12):
            book = whole_book(chance, 7, FORS, AGAINSTS)
            self.assertIsNone(torn(book))
            self.look_at(book)

    def test_houses(self):
        chance = random.Random(2)
        for turn in range(6):
            house = House(Courts(PAIRS))
            for day in range(25):
                court = chance.choice(NAMES)
                one = some_ruling(chance, FORS, AGAINSTS)
                book = house.book(court, "cruel")
                by = barred(book, one)
                told = answer(house.enter, day, court, "cruel", *one)
                if by is None:
                    self.assertEqual(one, house.ruling_of(told))
                else:
                    self.assertEqual("NotAllowed", told[0])
                    self.assertEqual(book[by], house.ruling_of(told[1]["by"]))
                for name in NAMES:
                    self.assertIsNone(torn(house.book(name, "cruel")))
            for name in NAMES:
                book, numbers = house.book(name, "cruel"), house.standing(name, "cruel")
                self.assertEqual(book, [house.ruling_of(number) for number in numbers])
                for case in CASES:
                    told = binding(book, case)
                    self.assertEqual(told and (told[0], numbers[told[1]]), house.bound(name, "cruel", case))
            self.look_at(house.book("least", "cruel"))


class Planned(unittest.TestCase):
    """A planned ruling is one that a court may enter, and then the target is bound; where none is told none does it."""

    def test_plans_in_a_house(self):
        chance = random.Random(3)
        judged = 0
        for turn in range(120):
            house = House(Courts(PAIRS))
            for one in whole_book(chance, 3, FORS, AGAINSTS):
                house.enter(1, chance.choice(("high", "low")), "cruel", *one)
            cases = chance.sample(CASES, 3)
            target, side = chance.choice(CASES), chance.choice(("for", "against"))
            told = plan(house.book("low", "cruel"), cases, target, side)
            if told[0] == "judge":
                judged += 1
                self.assertEqual(cases[told[1]], told[2][0])
                house.enter(2, "low", "cruel", *told[2])
                self.assertEqual(side, house.bound("low", "cruel", target)[0])
            elif told[0] == "bound":
                number = house.standing("low", "cruel")[told[1]]
                self.assertEqual((side, number), house.bound("low", "cruel", target))
            else:
                self.none_does_it(chance, house, cases, target, side)
        self.assertLess(5, judged)

    def none_does_it(self, chance, house, cases, target, side):
        rulings = [one for case in cases for one in rulings_of(case)]
        for one in chance.sample(rulings, len(rulings)):
            try:
                house.enter(2, "low", "cruel", *one)
            except NotAllowed:
                pass
            bound = house.bound("low", "cruel", target)
            self.assertTrue(bound is None or bound[0] != side)


class Settled(unittest.TestCase):
    """Readings, the clerk and the desk tell the same of a claim, whatever was entered."""

    kinds = (
        ("open", "claim", "claim"), ("open", "word", "claim"), ("open", "open", "claim"), ("word", "claim"),
        ("open", "word", "open", "claim"))

    def world(self, chance):
        """A desk and a house to which the same is told."""
        act = read_act(some_act(chance, chance.choice((["a"], ["a", "b"])), chance.choice(self.kinds), 3))
        desk, house = Desk(), House(Courts([]))
        for court, above in PAIRS:
            house.founded(court, above)
            self.assertEqual("ok", desk.say(f"court {court}" + (f" under {above}" if above else "")))
        self.assertEqual("ok", desk.say("act\n" + shown_act(act)))
        for day in range(chance.randint(0, 6)):
            self.do(chance, act, desk, house, day)
        return act, desk, house

    def do(self, chance, act, desk, house, day):
        court = chance.choice(NAMES)
        opens = [row for row in act if row[0] == "open"]
        if not opens or chance.random() < 0.2:
            number = chance.randint(0, 3)
            told = answer(house.overrule, day, court, number)
            said = answer(desk.say, f"overrule {day} {court} {number}")
            self.assertEqual("ok" if told is None else told, said)
            return
        row = chance.choice(opens)
        case, side, reason = some_ruling(chance, *tops_of(act, row, 2))
        told = answer(house.enter, day, court, row[1], case, side, reason)
        said = answer(
            desk.say, f"judge {day} {court} {row[1]} {written(case[0])} {written(case[1])} {side} {written(reason)}")
        self.assertEqual(str(told) if isinstance(told, int) else told, said)

    def test_the_same_is_told(self):
        chance = random.Random(4)
        words, drawn = set(), 0
        for turn in range(80):
            act, desk, house = self.world(chance)
            court = chance.choice(NAMES)
            books = {row[1]: house.book(court, row[1]) for row in act if row[0] == "open"}
            self.compare_house(chance, act, desk, house, court)
            for row in act:
                if row[0] == "claim":
                    many = chance.randint(0, 2)
                    parts = answer(clerk, act, books, many, row[1])
                    drawn += isinstance(parts, list)
                    for turn in range(12):
                        things = [some_pack(chance, {"a": 3, "b": 3}) for thing in range(many)]
                        words.add(self.compare(act, desk, court, books, things, row[1], parts))
        self.assertLess(60, drawn)
        self.assertEqual({"must", "never", "open"}, words)

    def compare_house(self, chance, act, desk, house, court):
        for row in act:
            if row[0] == "open":
                numbers = house.standing(court, row[1])
                said = " ".join(str(number) for number in numbers) or "none"
                self.assertEqual(said, desk.say(f"stands {court} {row[1]}"))
                for turn in range(10):
                    case = tuple(some_pack(chance, tops) for tops in tops_of(act, row, 2))
                    day = chance.choice((None, 0, 1, 2, 9))
                    told = house.bound(court, row[1], case, day)
                    said = desk.say(
                        f"bound {court} {row[1]} {written(case[0])} {written(case[1])}" + ("" if day is None else f" {day}"))
                    self.assertEqual("free" if told is None else f"{told[0]} {told[1]}", said)
        for number in range(7):
            told = answer(house.fate, number)
            if isinstance(told, list):
                told = "; ".join(" ".join(str(part) for part in deed) for deed in told)
            self.assertEqual(told, answer(desk.say, f"fate {number}"))

    def compare(self, act, desk, court, books, things, claim, parts):
        told = settled(act, books, things, claim)
        said = desk.say(" ".join([f"claim {court} {claim}"] + [written(thing) for thing in things]))
        self.assertEqual(told[0], said)
        if isinstance(parts, list):
            self.assertEqual(told[0], asked(parts, things))
        else:
            self.assertEqual(TooMuch.__name__, parts[0])
        known = [of_facts(act, thing) for thing in things]
        ways = [so(asking_of(act, claim), known, reading[1]) for reading in readings(act, books, things)]
        self.assertEqual({"must": {True}, "never": {False}, "open": {True, False}}[told[0]], set(ways))
        for word, reading in zip(("must", "never"), told[1]):
            self.enter_in_all(act, desk, court, books, things, claim, word, reading)
        return told[0]

    def enter_in_all(self, act, desk, court, books, things, claim, word, reading):
        """A told reading entered settles the claim as it says: in books, and for the clerk made of them."""
        grown = entered(books, reading)
        self.assertEqual((word, []), settled(act, grown, things, claim))
        parts = answer(clerk, act, grown, len(things), claim)
        if isinstance(parts, list):
            self.assertEqual(word, asked(parts, things))

    def test_a_reading_judged_at_the_desk_settles_the_claim(self):
        chance = random.Random(5)
        judged = 0
        for turn in range(60):
            act, desk, house = self.world(chance)
            claim = [row[1] for row in act if row[0] == "claim"][0]
            things = [some_pack(chance, {"a": 3, "b": 3}) for thing in range(chance.randint(1, 3))]
            books = {row[1]: house.book("least", row[1]) for row in act if row[0] == "open"}
            told = settled(act, books, things, claim)
            if told[0] != "open":
                continue
            way = chance.randrange(2)
            for word, number, one in told[1][way][0]:
                case, side, reason = one
                self.assertEqual(own_pack(case, side), reason)
                # Each is allowed in its turn.
                int(desk.say(f"judge 99 least {word} {written(case[0])} {written(case[1])} {side} {written(reason)}"))
                judged += 1
            said = desk.say(" ".join([f"claim least {claim}"] + [written(thing) for thing in things]))
            self.assertEqual(("must", "never")[way], said)
        self.assertLess(10, judged)


class Growing(unittest.TestCase):
    def test_books_of_whatever_length(self):
        chance = random.Random(6)
        book = []
        for turn in range(400):
            one = some_ruling(chance, {"a": 9, "b": 9, "c": 3}, {"c": 5, "d": 9})
            if barred(book, one) is None:
                book.append(one)
        self.assertLess(60, len(book))
        self.assertIsNone(torn(book))
        self.assertFalse(any(stand_against(one, other) for one in book for other in book))


if __name__ == "__main__":
    unittest.main()
