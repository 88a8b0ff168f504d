import copy
import unittest

from likebook.actreader import read_act
from likebook.actwriter import shown_act

TOP = 10 ** 30
TEXTS = (
    "fact a",
    "open o for against",
    "fact armed\nfact late\nopen cruel for armed late against\nword harsh if ( cruel and not late >= 3 )\n"
    "claim freed if not some harsh",
    "fact a\nopen o for against a\nopen p for o a against a o\nword w if ( ( o or p ) and a )\n"
    "claim c if ( all not not w or ( some a and not all o ) )",
    f"fact a\nword w if a >= {TOP}\nword v if not a >= 2",
)


class Written(unittest.TestCase):
    def test_written_as_read(self):
        for text in TEXTS:
            self.assertEqual(text, shown_act(read_act(text)))

    def test_read_again_to_the_same(self):
        for text in TEXTS:
            act = read_act(text)
            self.assertEqual(act, read_act(shown_act(act)))

    def test_at_least_1_is_written_as_the_name(self):
        act = read_act("fact a\nword w if ( a >= 1 and not a >= 10 )\nclaim c if some a >= 1")
        self.assertEqual("fact a\nword w if ( a and not a >= 10 )\nclaim c if some a", shown_act(act))
        self.assertEqual(act, read_act(shown_act(act)))

    def test_empty_lists_have_no_blank_behind_them(self):
        act = [("fact", "a"), ("open", "o", (), ()), ("open", "p", ("a",), ()), ("open", "q", (), ("a",))]
        self.assertEqual(
            "fact a\nopen o for against\nopen p for a against\nopen q for against a", shown_act(act))

    def test_twenty_four_rows(self):
        text = "\n".join(f"fact x{letter}" for letter in "abcdefghijklmnopqrstuvwx")
        self.assertEqual(text, shown_act(read_act(text)))

    def test_what_is_handed_in_is_not_changed(self):
        for text in TEXTS:
            act = read_act(text)
            before = copy.deepcopy(act)
            shown_act(act)
            self.assertEqual(before, act)

    def test_arguments_bear_the_told_names(self):
        self.assertEqual("fact a", shown_act(act=[("fact", "a")]))


if __name__ == "__main__":
    unittest.main()
