import itertools
import re
import unittest

from likebook.errors import NoPack
from likebook.packs import pack
from likebook.packtexts import number_of, read_pack, shown_pack
from kinds import NINE, assert_refused, many_names, no_names, no_texts

TOP = 10 ** 30
WRITTEN = (
    ("-", ()),
    ("a", (("a", 1),)),
    ("late:2", (("late", 2),)),
    ("late:10", (("late", 10),)),
    ("armed:3 late", (("armed", 3), ("late", 1))),
    ("armed late:3", (("armed", 1), ("late", 3))),
    ("a aa:100 b:20 z", (("a", 1), ("aa", 100), ("b", 20), ("z", 1))),
    (f"abcdefghijkl:{TOP}", (("abcdefghijkl", TOP),)),
    (f"late:{TOP - 1}", (("late", TOP - 1),)),
)


def writes_a_pack(text):
    """The document's words on how a pack is written, apart from the program."""
    if text == "-":
        return True
    pairs = [re.fullmatch("([a-z]{1,12})(?::([1-9][0-9]*))?", word) for word in text.split(" ")]
    if None in pairs:
        return False
    names = [pair[1] for pair in pairs]
    degrees = [pair[2] for pair in pairs if pair[2] is not None]
    return (
        names == sorted(set(names)) and not set(names) & set(NINE)
        and all(len(figures) <= 31 and 2 <= int(figures) <= TOP for figures in degrees)
    )


class Written(unittest.TestCase):
    def test_written(self):
        for text, one in WRITTEN:
            self.assertEqual(text, shown_pack(one))

    def test_read(self):
        for text, one in WRITTEN:
            self.assertEqual(one, read_pack(text))

    def test_what_is_read_is_a_pack(self):
        for text, one in WRITTEN:
            told = read_pack(text)
            self.assertIs(tuple, type(told))
            self.assertEqual({tuple} if one else set(), {type(pair) for pair in told})
            self.assertEqual(one, pack(list(told)))

    def test_what_is_written_is_read_to_the_same(self):
        names = ("a", "ab", "b", "abcdefghijkl")
        for amounts in itertools.product((0, 1, 2, 10, TOP), repeat=4):
            one = pack(list(zip(names, amounts)))
            self.assertEqual(one, read_pack(shown_pack(one)))

    def test_degrees_somewhat_beyond_are_written(self):
        self.assertEqual(f"late:{TOP + 1}", shown_pack((("late", TOP + 1),)))

    def test_a_long_text(self):
        one = tuple((name, TOP) for name in many_names())
        self.assertEqual(one, read_pack(shown_pack(one)))

    def test_arguments_bear_the_told_names(self):
        self.assertEqual((("late", 2),), read_pack(text="late:2"))
        self.assertEqual("late:2", shown_pack(one=(("late", 2),)))


class Refused(unittest.TestCase):
    def refuse(self, *texts):
        for text in texts:
            with self.subTest(text=repr(text)[:80]):
                assert_refused(self, NoPack, read_pack, text)

    def test_a_name_twice(self):
        self.refuse("late late", "late:2 late:2", "late late:2", "late:2 late", "late:3 late:2", "a late late")

    def test_names_in_another_order(self):
        self.refuse("late armed", "late armed:3", "b a", "aa a", "a c b", "b:2 a:2")

    def test_a_degree_of_0_or_1_written(self):
        self.refuse("late:0", "late:1", "armed:3 late:1", "armed:0 late", "armed:1 late:2")

    def test_a_degree_above_the_greatest(self):
        self.refuse(f"late:{TOP + 1}", f"late:{10 ** 31}", f"armed late:{TOP * 9}", "late:" + "9" * 31)

    def test_very_many_figures(self):
        self.refuse("late:" + "9" * 5000, "late:1" + "0" * 9000, "late:" + "0" * 5000 + "2")

    def test_a_nought_ahead(self):
        self.refuse("late:02", "late:00", "late:01", "late:010", f"late:0{TOP}", "armed late:0000000003")

    def test_other_blanks(self):
        self.refuse(
            " ", "  ", " late", "late ", "armed  late", "armed\tlate", "armed\nlate", "late\n", "\nlate", "- ",
            " -", "-\n", "late :2", "late: 2", "late:2 ", "armed:3\rlate", "armed:3  late", "\t", "late:2\n")

    def test_the_empty_text(self):
        self.refuse("")

    def test_no_number_behind_the_sign(self):
        self.refuse(
            "late:", ":", ":2", "late::2", "late:2:", "late:2:3", "late:+2", "late:-2", "late:1_0", "late:0x2",
            "late:2.0", "late:2e3", "late:two", "late:x", "late:2x", "late:-", "armed: late")

    def test_no_name(self):
        for thing in no_names():
            if isinstance(thing, str) and thing not in ("-", "a b"):
                self.refuse(thing, f"{thing}:2", f"{thing} late", f"armed {thing}")

    def test_each_of_the_nine_words(self):
        for word in NINE:
            self.refuse(word, f"{word}:2", f"a {word}", f"{word} zz", f"a:2 {word}:2 zz")

    def test_lengths_of_names(self):
        self.assertEqual((("x" * 12, 2),), read_pack("x" * 12 + ":2"))
        self.refuse("x" * 13, "x" * 13 + ":2", "x" * 10000)

    def test_the_empty_packs_sign_elsewhere(self):
        self.refuse("--", "- -", "- late", "late -", "-:2", "-late", "late-", "a - b")

    def test_other_signs_between(self):
        self.refuse("armed,late", "armed:3,late", "armed;late", "armed=3", "(armed)", "armed:3/late")

    def test_no_text(self):
        for thing in no_texts():
            assert_refused(self, NoPack, read_pack, thing)

    def test_every_short_text(self):
        for length in range(6):
            for signs in itertools.product("ab:-012 ", repeat=length):
                text = "".join(signs)
                if writes_a_pack(text):
                    self.assertEqual(text, shown_pack(read_pack(text)))
                else:
                    assert_refused(self, NoPack, read_pack, text)


class Figures(unittest.TestCase):
    def test_numbers(self):
        for number in (0, 1, 9, 10, 100, TOP, 10 ** 31 - 1):
            self.assertEqual(number, number_of(str(number)))

    def test_none(self):
        for figures in ("", "00", "01", "0" * 31, str(10 ** 31), "9" * 5000, "+1", "-1", " 1", "1 ", "1_0", "x", "1.0"):
            self.assertIsNone(number_of(figures), figures[:40])


if __name__ == "__main__":
    unittest.main()
