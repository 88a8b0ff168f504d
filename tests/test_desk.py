import unittest

from likebook.desk import Desk
from likebook.errors import (
    BookError, Late, NoCourt, NoReason, NoRow, NoRuling, NotAllowed, NotYours, TooMuch, Twice, Unknown,
)
from kinds import NINE, assert_refused, no_names, no_sides, no_texts

TOP = 10 ** 30
ACT = """act
fact armed
fact late
open cruel for armed late against
open mild for late against cruel armed
word harsh if ( cruel and not late >= 3 )
open grim for harsh cruel against armed
claim freed if not some harsh
claim held if some mild"""
COURTS = ("court high", "court low under high", "court side under high", "court island")


def desk(*rows):
    one = Desk()
    for row in COURTS + (ACT,) + rows:
        one.say(row)
    return one


def told(one):
    """All that a desk tells of itself, for looking whether something changed."""
    answers = []
    rows = [f"stands {court} {word}" for court in ("high", "low", "side", "island", "new") for word in ("cruel", "mild", "grim")]
    rows += [f"fate {number}" for number in range(6)]
    rows += ["claim low freed armed:2", "claim low held late", "claim low held", "bound low cruel armed -", "bound low cruel armed - 3"]
    for row in rows:
        try:
            answers.append(one.say(row))
        except BookError as refusal:
            answers.append((type(refusal).__name__, vars(refusal)))
    return answers


class Answers(unittest.TestCase):
    def test_courts(self):
        one = Desk()
        for row in COURTS:
            self.assertEqual("ok", one.say(row))
        self.assertEqual("ok", one.say("court under"))
        self.assertEqual("ok", one.say("court court under under"))

    def test_act(self):
        self.assertEqual("ok", Desk().say(ACT))
        self.assertEqual("ok", Desk().say("act\nfact a"))

    def test_judge_tells_the_number(self):
        one = desk()
        self.assertEqual("0", one.say("judge 0 low cruel armed:3,late - for armed:2"))
        self.assertEqual("1", one.say("judge 3 high mild late armed,cruel against cruel"))
        self.assertEqual("2", one.say("judge 3 low cruel - - for -"))

    def test_bound(self):
        one = desk("judge 3 low cruel armed:3 - for armed:2", "judge 5 high mild late:4 armed against armed")
        self.assertEqual("for 0", one.say("bound low cruel armed:2 -"))
        self.assertEqual("free", one.say("bound low cruel armed -"))
        self.assertEqual("free", one.say("bound high cruel armed:2 -"))
        self.assertEqual("against 1", one.say("bound low mild late:4 armed:2"))
        self.assertEqual("free", one.say("bound low mild late:5 armed:2"))

    def test_bound_on_a_day(self):
        one = desk("judge 3 low cruel armed:3 - for armed:2", "overrule 5 high 0")
        for day, answer in ((0, "free"), (2, "free"), (3, "for 0"), (4, "for 0"), (5, "free"), (10 ** 31 - 1, "free")):
            self.assertEqual(answer, one.say(f"bound low cruel armed:2 - {day}"))

    def test_fate(self):
        one = desk(
            "judge 3 low cruel armed - for armed", "judge 3 high mild - - for -", "judge 5 high cruel armed - against -",
            "overrule 7 high 1")
        self.assertEqual("entered 3 low; fell 5 2", one.say("fate 0"))
        self.assertEqual("entered 3 high; overruled 7 high", one.say("fate 1"))
        self.assertEqual("entered 5 high", one.say("fate 2"))

    def test_stands(self):
        one = desk("judge 3 low cruel armed - for armed", "judge 3 high cruel late - for late", "judge 3 side cruel - - for -")
        self.assertEqual("0 1", one.say("stands low cruel"))
        self.assertEqual("1", one.say("stands high cruel"))
        self.assertEqual("1 2", one.say("stands side cruel"))
        self.assertEqual("none", one.say("stands island cruel"))
        self.assertEqual("none", one.say("stands low mild"))

    def test_overrule(self):
        one = desk("judge 3 low cruel armed - for armed")
        self.assertEqual("ok", one.say("overrule 3 low 0"))
        self.assertEqual("none", one.say("stands low cruel"))

    def test_claim(self):
        one = desk()
        self.assertEqual("open", one.say("claim low freed armed:2"))
        one.say("judge 1 low cruel armed:2 - for armed:2")
        self.assertEqual("never", one.say("claim low freed armed:2"))
        self.assertEqual("open", one.say("claim high freed armed:2"))
        self.assertEqual("must", one.say("claim high freed late:3"))
        one.say("overrule 1 low 0")
        self.assertEqual("open", one.say("claim low freed armed:2"))

    def test_claims_of_none_to_six_things_and_of_seven(self):
        one = Desk()
        one.say("court high")
        one.say("act\nfact a\nopen o for a against\nclaim c if all a >= 2\nclaim d if some o")
        self.assertEqual("must", one.say("claim high c"))
        self.assertEqual("never", one.say("claim high d"))
        for number in range(1, 7):
            self.assertEqual("must", one.say("claim high c" + " a:2" * number))
            self.assertEqual("never", one.say("claim high c" + " a:2" * (number - 1) + " a"))
            self.assertEqual("open", one.say("claim high d" + " -" * number))
        for number in (7, 8, 50):
            self.assertEqual(0, assert_refused(self, NoRow, one.say, "claim high c" + " a:2" * number).row)

    def test_things_of_a_claim_may_have_other_names(self):
        one = desk()
        self.assertEqual(one.say("claim low freed armed:2"), one.say("claim low freed armed:2,cruel:7,harsh,other:3"))

    def test_the_greatest_degrees_and_numbers(self):
        one = desk()
        self.assertEqual("0", one.say(f"judge {10 ** 31 - 1} low cruel armed:{TOP} - for armed:{TOP}"))
        self.assertEqual("for 0", one.say(f"bound low cruel armed:{TOP} -"))
        self.assertEqual("free", one.say(f"bound low cruel armed:{TOP - 1} -"))
        self.assertEqual(f"entered {10 ** 31 - 1} low", one.say("fate 0"))

    def test_words_in_packs(self):
        one = desk()
        self.assertEqual("0", one.say("judge 0 low grim cruel,harsh armed:5 for harsh"))
        self.assertEqual("for 0", one.say("bound low grim harsh armed"))

    def test_an_act_lets_the_courts_stay_and_all_rulings_and_days_go(self):
        one = desk("judge 9 low cruel armed - for armed", "overrule 9 low 0", "judge 9 high mild - - for -")
        self.assertEqual("ok", one.say(ACT))
        self.assertEqual("none", one.say("stands low mild"))
        assert_refused(self, NoRuling, one.say, "fate 0")
        assert_refused(self, NoCourt, one.say, "court low")
        self.assertEqual("0", one.say("judge 0 low cruel armed - for armed"))
        self.assertEqual("ok", one.say("act\nfact a\nopen o for a against\nclaim c if some o"))
        self.assertEqual("cruel", assert_refused(self, Unknown, one.say, "stands low cruel").name)
        self.assertEqual("open", one.say("claim low c a"))
        self.assertEqual("ok", one.say("court least under low"))

    def test_desks_are_apart(self):
        one, other = desk(), desk()
        one.say("judge 0 low cruel armed - for armed")
        self.assertEqual("none", other.say("stands low cruel"))

    def test_each_answer_is_a_text(self):
        one = desk()
        for row in ("judge 0 low cruel armed - for armed", "stands low cruel", "bound low cruel armed -", "fate 0"):
            self.assertIs(str, type(one.say(text=row)))


class Rows(unittest.TestCase):
    """What is none such: NoRow, row 0, and nothing is changed."""

    def setUp(self):
        self.one = desk("judge 2 low cruel armed:3 - for armed:2", "judge 2 high mild late armed against armed")
        self.before = told(self.one)

    def refuse(self, *rows):
        for row in rows:
            with self.subTest(row=repr(row)[:90]):
                self.assertEqual(0, assert_refused(self, NoRow, self.one.say, row).row)
        self.assertEqual(self.before, told(self.one))

    def test_no_text(self):
        for thing in no_texts():
            self.assertEqual(0, assert_refused(self, NoRow, self.one.say, thing).row)
            self.assertEqual(0, assert_refused(self, NoRow, Desk().say, thing).row)

    good = (
        "court new", "court new under low", "judge 2 low cruel armed:3,late - for armed:2", "overrule 2 low 0",
        "bound low cruel armed -", "bound low cruel armed - 2", "fate 0", "claim low freed", "claim low freed armed:2 -",
        "stands low cruel")

    def test_other_words(self):
        self.refuse(
            "", " ", "\n", "act", "Act", "acts", "act ", "act low", "court", "judge", "overrule", "bound", "fate", "claim",
            "stands", "close", "Court new", "courts new", "stand low cruel", "judges", "fact armed", "for", "-", "0")

    def test_a_word_more_or_less(self):
        self.refuse(
            "court new under", "court new above low", "court new low", "court new under low high", "court under new low",
            "judge 2 low cruel armed:3 - for", "judge 2 low cruel armed:3 - for armed:2 -", "judge low cruel armed:3 - for armed",
            "judge 2 cruel armed:3 - for armed", "judge 2 low armed:3 - for armed", "overrule 2 low", "overrule low 0",
            "overrule 2 low 0 0", "bound low cruel armed", "bound low cruel", "bound low cruel armed - 2 2", "bound cruel armed -",
            "fate", "fate 0 0", "claim low", "stands low", "stands cruel", "stands low cruel 2", "stands low cruel mild")

    def test_blanks_and_line_feeds(self):
        for row in self.good:
            self.refuse(" " + row, row + " ", row + "\n", "\n" + row, row + "\t", row + "\r", row + "\n\n", row + "\nfact a")
            self.refuse(row.replace(" ", "  ", 1), row.replace(" ", "\n", 1), row.replace(" ", "\t", 1))
            self.refuse("  ".join(row.rsplit(" ", 1)), "\n".join(row.rsplit(" ", 1)), row.replace(" ", ""))

    def test_good_rows_are_good(self):
        for row in self.good:
            desk("judge 2 low cruel armed:3 - for armed:2").say(row)

    def test_numbers(self):
        for number in ("-1", "+1", "00", "01", "002", "1.0", "two", "", "-", "1_0", "x", "1" + "0" * 31, "9" * 32, "0" * 31,
                       "9" * 5000, "a:2"):
            self.refuse(
                f"judge {number} low cruel armed - for armed", f"overrule {number} low 0", f"overrule 2 low {number}",
                f"bound low cruel armed - {number}", f"fate {number}")

    def test_names(self):
        for thing in no_names():
            if isinstance(thing, str) and thing != "a b":
                self.refuse(
                    f"court {thing}", f"court {thing} under low", f"court new under {thing}", f"overrule 2 {thing} 0",
                    f"judge 2 {thing} cruel armed - for armed", f"judge 2 low {thing} armed - for armed",
                    f"bound {thing} cruel armed -", f"bound low {thing} armed -", f"stands {thing} cruel",
                    f"stands low {thing}", f"claim {thing} freed", f"claim low {thing}")

    def test_packs(self):
        for text in (
                "", "late,armed", "armed,armed", "armed:1", "armed:0", "armed:01", f"armed:{TOP + 1}", "armed,", ",armed",
                "armed,,late", ",", "armed;late", "armed:", "armed:x", "--", "-,-", "armed,-", "armed:3:2", "Armed", "()",
                "for", "armed:2,for", "x" * 13):
            self.refuse(
                f"judge 2 low cruel {text} - for -", f"judge 2 low cruel armed:3 {text} for -",
                f"judge 2 low cruel armed:3 - for {text}", f"bound low cruel {text} -", f"bound low mild late {text}",
                f"claim low freed {text}", f"claim low freed armed {text}")
        self.refuse("judge 2 low cruel armed late - for -", "bound low cruel armed late -")

    def test_sides(self):
        for thing in no_sides():
            if isinstance(thing, str):
                self.refuse(f"judge 2 low cruel armed - {thing} -")

    def test_names_that_are_not_in_the_open_words_list_of_that_side(self):
        self.refuse(
            "judge 2 low cruel other - for -", "judge 2 low cruel armed armed for -", "judge 2 low cruel armed late for -",
            "judge 2 low mild armed - for -", "judge 2 low mild late late for -", "judge 2 low cruel armed - for mild",
            "judge 2 low mild late armed for armed", "judge 2 low mild late armed against late", "judge 2 low cruel cruel - for -",
            "bound low cruel other -", "bound low cruel - armed", "bound low mild cruel -", "bound low mild late,other -",
            "bound low mild late late", "bound low cruel harsh - 2")

    def test_a_degree_of_a_word_above_1(self):
        self.refuse(
            "judge 2 low grim harsh:2 - for -", "judge 2 low grim cruel:2,harsh - for -", "judge 2 low mild late cruel:2 for -",
            f"judge 2 low grim harsh - for harsh:{TOP}", "bound low grim harsh:2 -", "bound low mild late cruel:3",
            "bound low mild - cruel:3 2")
        # So it is, too, where no open word is told.
        self.refuse("judge 2 low none harsh:2 - for -", "bound low none armed cruel:2")

    def test_no_row_ahead_of_no_court_and_unknown(self):
        self.refuse(
            "judge 2 none none armed - for late,armed", "judge x none cruel armed - for -", "judge 2 none cruel other - for -",
            "bound none cruel other -", "bound none none armed:1 -", "claim none none armed:1", "overrule 2 none x",
            "claim none none - - - - - - -", "judge 0 none grim harsh:2 - for -")


class Acts(unittest.TestCase):
    def test_an_act_with_something_wrong(self):
        one = desk("judge 2 low cruel armed:3 - for armed:2")
        before = told(one)
        for text, row in (
                ("act\n", 0), ("act\nfact", 0), ("act\n\nfact a", 0), ("act\nfact a\n", 1), ("act\nfact a\nfact b c", 1),
                (ACT + "\nword", 8), ("act\n" + "\n".join(f"fact x{letter}" for letter in "abcdefghijklmnopqrstuvwxy"), 24)):
            self.assertEqual(row, assert_refused(self, NoRow, one.say, text).row)
        self.assertEqual("armed", assert_refused(self, Twice, one.say, ACT + "\nfact armed").name)
        self.assertEqual("none", assert_refused(self, Unknown, one.say, ACT + "\nword new if none").name)
        self.assertEqual(before, told(one))

    def test_the_first_row_is_act_alone(self):
        one = desk()
        for text in ("act fact a", "act \nfact a", " act\nfact a", "act low\nfact a", "acts\nfact a", "act\r\nfact a", "\nact\nfact a"):
            self.assertEqual(0, assert_refused(self, NoRow, one.say, text).row)


class Refused(unittest.TestCase):
    def setUp(self):
        self.one = desk("judge 2 low cruel armed:3 - for armed:2", "judge 2 high mild late armed against armed")
        self.before = told(self.one)

    def refuse(self, kind, row):
        refusal = assert_refused(self, kind, self.one.say, row)
        self.assertEqual(self.before, told(self.one))
        return refusal

    def test_courts(self):
        for row in ("court low", "court low under high", "court low under none", "court new under none", "court new under new"):
            self.refuse(NoCourt, row)

    def test_an_untold_court_ahead_of_unknown_and_the_rest(self):
        for row in (
                "judge 0 none none armed - for late", "judge 0 none cruel armed - for late", "judge 2 none cruel armed:3 - against -",
                "overrule 0 none 7", "overrule 2 none 0", "bound none none armed -", "bound none cruel armed - 0",
                "claim none none armed", "claim none freed - - -", "stands none none", "stands none cruel"):
            self.refuse(NoCourt, row)

    def test_an_untold_court_where_there_are_no_open_words(self):
        one = Desk()
        assert_refused(self, NoCourt, one.say, "claim high freed")
        one.say("act\nfact a\nclaim c if some a")
        assert_refused(self, NoCourt, one.say, "claim high c a")
        assert_refused(self, NoCourt, one.say, "stands high c")
        assert_refused(self, NoCourt, one.say, "bound high c - -")

    def test_unknown_ahead_of_the_rest(self):
        for name in ("none", "harsh", "armed", "freed"):
            for row in (
                    f"judge 0 low {name} armed - for late", f"judge 2 low {name} armed:2 - against late", f"bound low {name} armed -",
                    f"bound low {name} other - 0", f"stands low {name}"):
                self.assertEqual(name, self.refuse(Unknown, row).name)
        for name in ("none", "harsh", "armed", "cruel"):
            self.assertEqual(name, self.refuse(Unknown, f"claim low {name}").name)
            self.assertEqual(name, self.refuse(Unknown, f"claim low {name} - - - - -").name)

    def test_without_an_act(self):
        one = Desk()
        one.say("court high")
        self.assertEqual("cruel", assert_refused(self, Unknown, one.say, "judge 0 high cruel armed - for armed").name)
        self.assertEqual("freed", assert_refused(self, Unknown, one.say, "claim high freed").name)
        self.assertEqual("cruel", assert_refused(self, Unknown, one.say, "stands high cruel").name)
        self.assertEqual("cruel", assert_refused(self, Unknown, one.say, "bound high cruel - -").name)
        assert_refused(self, NoRuling, one.say, "fate 0")
        assert_refused(self, NoRuling, one.say, "overrule 0 high 0")

    def test_the_refusals_of_the_stages(self):
        self.refuse(Late, "judge 1 low cruel armed:3 - for late")
        self.refuse(Late, "judge 1 low cruel armed:3 - against -")
        self.refuse(Late, "overrule 1 low 7")
        self.refuse(NoReason, "judge 2 low cruel armed:3 - for late")
        self.refuse(NoReason, "judge 2 low cruel armed:3 - for armed:4")
        self.assertEqual(0, self.refuse(NotAllowed, "judge 2 low cruel armed:3 - against -").by)
        self.assertEqual(1, self.refuse(NotAllowed, "judge 2 low mild late armed for late").by)
        self.refuse(NoRuling, "overrule 2 low 7")
        self.refuse(NotYours, "overrule 2 side 0")
        self.refuse(NotYours, "overrule 2 low 1")
        self.refuse(NoRuling, "fate 2")
        self.refuse(NoRuling, f"fate {10 ** 31 - 1}")

    def test_too_much(self):
        for things in (" -" * 3, " -" * 6, " late:2 armed -"):
            self.refuse(TooMuch, "claim low held" + things)
        self.assertEqual("open", self.one.say("claim low held - late"))

    def test_a_refused_row_makes_none_late(self):
        self.refuse(NotAllowed, "judge 9 low cruel armed:3 - against -")
        self.refuse(NoRuling, "overrule 9 low 7")
        self.assertEqual("2", self.one.say("judge 2 low cruel late - for late"))

    def test_the_nine_words_are_no_names(self):
        for word in NINE:
            self.assertEqual(0, self.refuse(NoRow, f"court {word}").row)


if __name__ == "__main__":
    unittest.main()
