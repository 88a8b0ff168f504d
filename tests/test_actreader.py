import random
import re
import unittest

from likebook.actreader import read_act
from likebook.actwriter import shown_act
from likebook.errors import BookError, NoRow, Twice, Unknown
from kinds import NINE, assert_refused, no_names, no_texts, some_act

TOP = 10 ** 30
TEXT = """fact armed
fact late
open cruel for armed late against
open mild for late against cruel armed
word harsh if ( cruel and not late >= 3 )
claim freed if not some harsh
claim held if ( all harsh or some ( mild or armed ) )"""
ACT = [
    ("fact", "armed"),
    ("fact", "late"),
    ("open", "cruel", ("armed", "late"), ()),
    ("open", "mild", ("late",), ("cruel", "armed")),
    ("word", "harsh", ("and", ("is", "cruel"), ("not", ("at", "late", 3)))),
    ("claim", "freed", ("not", ("some", ("is", "harsh")))),
    ("claim", "held", ("or", ("all", ("is", "harsh")), ("some", ("or", ("is", "mild"), ("at", "armed", 1))))),
]


def told_depth(words):
    """How deep a saying or an asking is, and which of both: by rewriting it from within; None where it is none."""
    text = " ".join(words)
    number = "[1-9][0-9]{0,30}"
    for found in re.findall(f" >= ({number})(?= |$)", text):
        if int(found) > TOP:
            return None
    names = f"(?<![^ ])(?!(?:{'|'.join(NINE)})(?: |$))[a-z]{{1,12}}(?: >= {number})?(?= |$)"
    text = re.sub(names, "S1", text)
    before = None
    while before != text:
        before = text
        text = re.sub(r"(?<![^ ])not ([SA])(\d+)", lambda m: f"{m[1]}{int(m[2]) + 1}", text)
        text = re.sub(r"(?<![^ ])(some|all) S(\d+)", lambda m: f"A{int(m[2]) + 1}", text)
        text = re.sub(
            r"\( ([SA])(\d+) (?:and|or) \1(\d+) \)", lambda m: f"{m[1]}{max(int(m[2]), int(m[3])) + 1}", text)
    found = re.fullmatch(r"([SA])(\d+)", text)
    return found and (found[1], int(found[2]))


def is_named(word):
    return re.fullmatch("[a-z]{1,12}", word) is not None and word not in NINE


def told_row(row):
    """What a row tells as (kind, name, the names it speaks of, from the left, with whether >= is behind), or None."""
    words = row.split(" ")
    if len(words) < 2 or not is_named(words[1]):
        return None
    if words[0] == "fact" and len(words) == 2:
        return ("fact", words[1], [])
    if words[0] == "open" and words[2:3] == ["for"] and words.count("against") == 1:
        cut = words.index("against")
        lists = [words[3:cut], words[cut + 1:]]
        if all(is_named(word) for word in lists[0] + lists[1]) and all(len(set(one)) == len(one) for one in lists):
            return ("open", words[1], [(word, False) for word in lists[0] + lists[1]])
    if words[0] in ("word", "claim") and words[2:3] == ["if"]:
        depth = told_depth(words[3:])
        if depth and depth[0] == {"word": "S", "claim": "A"}[words[0]] and depth[1] <= 8:
            said = [
                (word, words[k + 1:k + 2] == [">="]) for k, word in enumerate(words) if k > 2 and is_named(word)]
            return (words[0], words[1], said)
    return None


def told_refusal(text):
    """The document's words, apart from the program: the kind and the field of the refusal, or None."""
    kinds = {}
    for number, written in enumerate(text.split("\n")):
        row = told_row(written)
        fifth = row is not None and row[0] == "open" and list(kinds.values()).count("open") == 4
        if row is None or fifth or number == 24:
            return (NoRow, number)
        if row[1] in kinds:
            return (Twice, row[1])
        for name, bounded in row[2]:
            if kinds.get(name) not in (("fact",) if bounded else ("fact", "open", "word")):
                return (Unknown, name)
        kinds[row[1]] = row[0]
    return None


def nots(number, inner):
    return "not " * number + inner


def nested(number, inner):
    return inner if number == 0 else f"( {inner} and {nested(number - 1, inner)} )"


class Read(unittest.TestCase):
    def test_an_act(self):
        told = read_act(TEXT)
        self.assertEqual(ACT, told)
        self.assertIs(list, type(told))

    def test_one_row(self):
        self.assertEqual([("fact", "a")], read_act("fact a"))
        self.assertEqual([("open", "a", (), ())], read_act("open a for against"))

    def test_kinds_are_names_too(self):
        text = "fact fact\nfact open\nfact word\nfact claim\nword under if fact\nclaim act if some claim >= 2"
        self.assertEqual(
            [("fact", "fact"), ("fact", "open"), ("fact", "word"), ("fact", "claim"),
             ("word", "under", ("at", "fact", 1)), ("claim", "act", ("some", ("at", "claim", 2)))], read_act(text))

    def test_the_lists_of_an_open(self):
        facts = "fact a\nfact b\nfact c\n"
        for row, fors, againsts in (
                ("open o for against", (), ()), ("open o for a against", ("a",), ()),
                ("open o for against a", (), ("a",)), ("open o for c a b against b", ("c", "a", "b"), ("b",)),
                ("open o for a b c against c b a", ("a", "b", "c"), ("c", "b", "a"))):
            self.assertEqual(("open", "o", fors, againsts), read_act(facts + row)[-1])

    def test_opens_and_words_in_the_lists_of_an_open(self):
        text = "fact a\nopen o for a against\nword w if o\nopen p for w a against o w"
        self.assertEqual(("open", "p", ("w", "a"), ("o", "w")), read_act(text)[-1])

    def test_sayings(self):
        for saying, told in (
                ("a", ("at", "a", 1)), ("a >= 1", ("at", "a", 1)), ("a >= 2", ("at", "a", 2)),
                ("o", ("is", "o")), ("w", ("is", "w")), ("not w", ("not", ("is", "w"))),
                (f"a >= {TOP}", ("at", "a", TOP)), (f"a >= {TOP - 1}", ("at", "a", TOP - 1)),
                ("not not a >= 10", ("not", ("not", ("at", "a", 10)))),
                ("( a and o )", ("and", ("at", "a", 1), ("is", "o"))),
                ("( a >= 3 or not w )", ("or", ("at", "a", 3), ("not", ("is", "w")))),
                ("not ( a and ( o or w ) )", ("not", ("and", ("at", "a", 1), ("or", ("is", "o"), ("is", "w"))))),
                ("( ( a or w ) and o )", ("and", ("or", ("at", "a", 1), ("is", "w")), ("is", "o")))):
            text = f"fact a\nopen o for a against\nword w if o\nword it if {saying}"
            self.assertEqual(("word", "it", told), read_act(text)[-1])
            text = f"fact a\nopen o for a against\nword w if o\nclaim it if some {saying}"
            self.assertEqual(("claim", "it", ("some", told)), read_act(text)[-1])

    def test_askings(self):
        some, each = ("some", ("at", "a", 1)), ("all", ("not", ("at", "a", 1)))
        for asking, told in (
                ("some a", some), ("all not a", each), ("not some a", ("not", some)),
                ("( some a and all not a )", ("and", some, each)), ("( all not a or not some a )", ("or", each, ("not", some))),
                ("not not ( some a or ( some a and some a ) )", ("not", ("not", ("or", some, ("and", some, some)))))):
            self.assertEqual(("claim", "it", told), read_act(f"fact a\nclaim it if {asking}")[-1])

    def test_eight_deep(self):
        for saying in (nots(7, "a"), nested(7, "a"), nots(3, nested(4, "a >= 2"))):
            self.assertEqual("word", read_act(f"fact a\nword it if {saying}")[-1][0])
        for asking in ("some " + nots(6, "a"), nots(6, "some a"), nested(3, "all " + nots(3, "a"))):
            self.assertEqual("claim", read_act(f"fact a\nclaim it if {asking}")[-1][0])

    def test_twenty_four_rows(self):
        rows = [f"fact x{letter}" for letter in "abcdefghijklmnopqrstuvwx"]
        self.assertEqual([("fact", row[5:]) for row in rows], read_act("\n".join(rows)))

    def test_four_opens(self):
        rows = [f"open {letter} for against" for letter in "abcd"]
        self.assertEqual([("open", letter, (), ()) for letter in "abcd"], read_act("\n".join(rows)))

    def test_each_told_list_is_the_askers_own(self):
        first, second = read_act(TEXT), read_act(TEXT)
        first.append(("fact", "more"))
        first[0] = None
        self.assertEqual(ACT, second)
        self.assertEqual(ACT, read_act(TEXT))

    def test_arguments_bear_the_told_names(self):
        self.assertEqual([("fact", "a")], read_act(text="fact a"))


class Rows(unittest.TestCase):
    """Rows that are none such."""

    head = "fact a\nfact b\nopen o for a against b\nword w if o\n"

    def refuse(self, *rows):
        for row in rows:
            with self.subTest(row=row[:80]):
                self.assertEqual(4, assert_refused(self, NoRow, read_act, self.head + row).row)
                self.assertEqual(4, assert_refused(self, NoRow, read_act, self.head + row + "\nfact").row)
                self.assertEqual((NoRow, 4), told_refusal(self.head + row))

    def test_no_text(self):
        for thing in no_texts():
            self.assertEqual(0, assert_refused(self, NoRow, read_act, thing).row)

    def test_the_empty_text_and_empty_rows(self):
        self.assertEqual(0, assert_refused(self, NoRow, read_act, "").row)
        self.assertEqual(0, assert_refused(self, NoRow, read_act, "\n").row)
        self.assertEqual(0, assert_refused(self, NoRow, read_act, "\nfact a").row)
        self.assertEqual(1, assert_refused(self, NoRow, read_act, "fact a\n\nfact b").row)
        self.refuse("")

    def test_a_line_feed_at_the_end(self):
        self.assertEqual(1, assert_refused(self, NoRow, read_act, "fact a\n").row)
        self.assertEqual(7, assert_refused(self, NoRow, read_act, TEXT + "\n").row)

    def test_other_blanks_and_a_blank_at_an_end(self):
        for row in ("fact c", "open p for a against b", "word v if ( a and b >= 2 )", "claim c if not some a"):
            self.assertEqual(5, len(read_act(self.head + row)))
            self.refuse(" " + row, row + " ", row + "\t", row + "\r", row.replace(" ", "  ", 1), row.replace(" ", "\t", 1))
            self.refuse("  ".join(row.rsplit(" ", 1)), row.replace(" ", ""), row.replace(" ", "\r"))

    def test_words_in_another_order_or_none(self):
        self.refuse(
            "a", "fact", "fact c d", "facts c", "Fact c", "c fact", "fact a b", "fact c if a", "open", "open p", "open p for",
            "open p for a", "open p against b for a", "open p against b", "open for a against b", "open p for a against b for",
            "open p for a against b against", "open p for a for b against", "open p if a", "word", "word v", "word v if",
            "word if a", "word v a", "word v is a", "word v if if a", "word v for a", "claim", "claim c", "claim c if",
            "claim c if a", "claim c some a", "word v if some a", "word v if all a", "if a", "not a", "some a", "court a")

    def test_no_names(self):
        for thing in no_names():
            if isinstance(thing, str) and "\n" not in thing and thing not in NINE and thing != "a b":
                self.refuse(f"fact {thing}", f"open {thing} for a against", f"open p for {thing} against")
                self.refuse(f"open p for a against {thing}" if thing else "open p for a against ")
                self.refuse(f"word {thing} if a", f"word v if {thing}", f"claim {thing} if some a", f"claim c if some {thing}")
                self.refuse(f"word v if {thing} >= 2", f"word v if ( a and {thing} )")
        for word in NINE:
            self.refuse(f"fact {word}", f"open {word} for a against", f"word {word} if a", f"word v if {word}")
            self.refuse(f"claim {word} if some a", f"claim c if some {word}", f"word v if {word} >= 2")
            self.refuse(f"open p for a {word} b against a {word}")

    def test_a_name_twice_in_one_list(self):
        self.refuse("open p for a a against", "open p for against b b", "open p for a b a against", "open p for z z against")
        self.refuse("open p for a b against b a b")

    def test_brackets(self):
        self.refuse(
            "word v if ( a )", "word v if a and b", "word v if ( a and b", "word v if a and b )", "word v if ( a and b ) )",
            "word v if ( ( a and b )", "word v if ( a and b or w )", "word v if ( and a b )", "word v if ( a b and )",
            "word v if ( a and )", "word v if ( and b )", "word v if ()", "word v if ( )", "word v if (a and b)",
            "word v if ( a , b )", "word v if ( a not b )", "word v if [ a and b ]", "word v if ( a and b ) and w",
            "claim c if ( some a )", "claim c if some a and some b", "claim c if ( some a and b )",
            "claim c if ( a and some b )", "claim c if some a or b", "claim c if ( some a and some b",
            "claim c if some ( some a )", "claim c if some some a", "claim c if all some a", "claim c if some not some a",
            "claim c if ( a and b )", "claim c if not a", "claim c if some", "claim c if not", "word v if not",
            "claim c if some ( a and some b )", "word v if a b", "claim c if some a b", "claim c if some a some b")

    def test_numbers(self):
        for number in ("0", "00", "01", "0" + str(TOP), str(TOP + 1), "9" * 31, "9" * 32, "9" * 5000, "-1", "+1", "1.0", "x",
                       "a", "", "1e3", "1_0", "(", "two"):
            self.refuse(f"word v if a >= {number}", f"claim c if some a >= {number}", f"word v if ( a >= {number} and b )")
        self.refuse(
            "word v if a >=", "word v if a > 2", "word v if a = 2", "word v if a <= 2", "word v if a >=2", "word v if a>= 2",
            "word v if a>=2", "word v if >= 2", "word v if 2", "word v if 2 >= a", "word v if not >= 2", "word v if a >= >= 2",
            "word v if a >= 2 3", "word v if a >= 2 >= 2", "word v if ( a and b ) >= 2", "claim c if a >= 2")

    def test_nine_deep_and_much_deeper(self):
        self.refuse(*[f"word v if {saying}" for saying in (
            nots(8, "a"), nested(8, "a"), nots(4, nested(4, "a >= 2")), nots(2000, "a"), nested(200, "a"), "( " * 4000)])
        self.refuse(*[f"claim c if {asking}" for asking in (
            "some " + nots(7, "a"), nots(7, "some a"), nested(3, "all " + nots(4, "a")), nots(2000, "some a"), "( " * 4000,
            "all " + nested(7, "a"))])

    def test_the_twenty_fifth_row(self):
        rows = [f"fact x{letter}" for letter in "abcdefghijklmnopqrstuvwx"]
        for last in ("fact y", "", "fact xa", "word w if z"):
            self.assertEqual(24, assert_refused(self, NoRow, read_act, "\n".join(rows + [last])).row)
            self.assertEqual(24, assert_refused(self, NoRow, read_act, "\n".join(rows + [last, "fact z"])).row)
        self.assertEqual("xa", assert_refused(self, Twice, read_act, "\n".join(rows[:23] + rows[:9])).name)

    def test_a_fifth_open(self):
        rows = [f"open {letter} for against" for letter in "abcd"]
        for last in ("open e for against", "open a for against", "open e for z against"):
            self.assertEqual(4, assert_refused(self, NoRow, read_act, "\n".join(rows + [last])).row)
        self.assertEqual(5, assert_refused(self, NoRow, read_act, "\n".join(rows + ["fact z", "open e for against"])).row)


class Names(unittest.TestCase):
    head = "fact a\nfact b\nopen o for a against b\nword w if o\nclaim c if some a\n"

    def refuse(self, kind, name, row):
        self.assertEqual(name, assert_refused(self, kind, read_act, self.head + row).name)
        self.assertEqual((kind, name), told_refusal(self.head + row))

    def test_twice(self):
        for name in ("a", "b", "o", "w", "c"):
            for row in (f"fact {name}", f"open {name} for a against", f"word {name} if a", f"claim {name} if some a"):
                self.refuse(Twice, name, row)

    def test_unknown(self):
        for row in (
                "open p for z against", "open p for against z", "open p for a z against b", "word v if z", "word v if not z",
                "word v if z >= 2", "word v if ( a and z )", "word v if ( z or a )", "claim k if some z", "claim k if all z",
                "claim k if not ( some a and some not z )"):
            self.refuse(Unknown, "z", row)

    def test_a_name_is_not_told_ahead_of_itself(self):
        self.refuse(Unknown, "p", "open p for p against")
        self.refuse(Unknown, "v", "word v if v")
        self.refuse(Unknown, "v", "word v if ( a and v )")
        self.refuse(Unknown, "k", "claim k if some k")

    def test_what_is_told_later_is_unknown(self):
        self.assertEqual("b", assert_refused(self, Unknown, read_act, "fact a\nword w if b\nfact b").name)

    def test_a_claim_is_no_name_of_a_saying(self):
        for row in ("open p for c against", "word v if c", "claim k if some c", "word v if c >= 2"):
            self.refuse(Unknown, "c", row)

    def test_at_least_of_what_is_no_fact(self):
        for name in ("o", "w"):
            for row in (f"word v if {name} >= 1", f"word v if {name} >= 2", f"claim k if all not {name} >= 1"):
                self.refuse(Unknown, name, row)

    def test_from_the_left(self):
        self.refuse(Unknown, "y", "open p for a y against z")
        self.refuse(Unknown, "z", "open p for z against y")
        self.refuse(Unknown, "z", "word v if ( z and y )")
        self.refuse(Unknown, "y", "word v if ( ( a or y ) and z )")
        self.refuse(Unknown, "o", "word v if ( o >= 2 and z )")
        self.refuse(Unknown, "z", "word v if ( z and o >= 2 )")

    def test_no_row_ahead_of_twice_ahead_of_unknown(self):
        for row in ("fact a b", "word a if z z", "open a for z z against", "word a if ( z", "claim c if some z >= 0"):
            self.assertEqual(5, assert_refused(self, NoRow, read_act, self.head + row).row)
        self.refuse(Twice, "a", "word a if z")
        self.refuse(Twice, "o", "open o for z against")
        self.refuse(Twice, "c", "claim c if some o >= 2")

    def test_the_first_row_with_something_wrong(self):
        wrongs = [("fact", NoRow, 5), ("fact a", Twice, "a"), ("word v if z", Unknown, "z")]
        for first, kind, field in wrongs:
            for second, other, unused in wrongs:
                refusal = assert_refused(self, kind, read_act, self.head + first + "\n" + second)
                self.assertEqual(field, refusal.row if kind is NoRow else refusal.name)


def chosen_act(chance, deep):
    kinds = [chance.choice(("open", "word", "claim")) for turn in range(8)]
    opens = [k for k, kind in enumerate(kinds) if kind == "open"]
    return some_act(chance, ["a", "b"], ["word" if k in opens[4:] else kind for k, kind in enumerate(kinds)], deep)


class ByChance(unittest.TestCase):
    def test_written_and_read_again(self):
        chance = random.Random(1)
        for turn in range(150):
            text = chosen_act(chance, chance.randint(2, 8))
            self.assertIsNone(told_refusal(text))
            act = read_act(text)
            written = shown_act(act)
            self.assertEqual(re.sub(" >= 1(?![0-9])", "", text), written)
            self.assertEqual(act, read_act(written))

    def test_acts_with_something_wrong(self):
        chance = random.Random(2)
        pieces = "a b o p q z and or not if is some all for against ( ) >= 1 0 2 fact open word claim".split() + ["", "a\n"]
        seen = {}
        for turn in range(2500):
            text = chosen_act(chance, chance.randint(2, 5))
            words = re.split("( |\n)", text)
            for change in range(chance.randint(1, 2)):
                place = chance.randrange(0, len(words), 2)
                words[place] = chance.choice(pieces)
            text = "".join(words)
            expected = told_refusal(text)
            try:
                read_act(text)
                told = None
            except BookError as refusal:
                told = (type(refusal), getattr(refusal, "row", getattr(refusal, "name", None)))
            self.assertEqual(expected, told, text)
            seen[told and told[0]] = seen.get(told and told[0], 0) + 1
        self.assertEqual({None, NoRow, Twice, Unknown}, set(seen))
        self.assertLess(25, min(seen.values()), seen)


if __name__ == "__main__":
    unittest.main()
