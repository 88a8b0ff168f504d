import copy
import itertools
import unittest

from likebook.parts import asked

TOP = 10 ** 30
PARTS = [
    ("told", "must"), ("told", "never"), ("told", "open"),
    ("as", 1, 0, "b", 2, 0), ("as", 0, 1, "b", 1, 3), ("least", 1, "a", 2, 4, 2), ("least", 0, "a", 1, 5, 0),
]


def going(things):
    one, other = [dict(thing) for thing in things]
    if one.get("a", 0) >= 1:
        return "must"
    if other.get("a", 0) >= 2:
        return "open"
    if one.get("b", 0) < other.get("b", 0):
        return "never"
    return "must" if other.get("b", 0) >= one.get("b", 0) else "open"


class Asked(unittest.TestCase):
    def test_a_word_alone(self):
        for word in ("must", "never", "open"):
            self.assertEqual(word, asked([("told", word)], []))
            self.assertEqual(word, asked([("told", word)], [(("a", 1),)] * 6))

    def test_it_begins_at_the_last_part(self):
        things = [tuple((name, amount) for name, amount in zip("ab", amounts) if amount)
                  for amounts in itertools.product(range(3), repeat=2)]
        seen = {}
        for pair in itertools.product(things, repeat=2):
            told = asked(PARTS, list(pair))
            self.assertEqual(going(pair), told)
            seen[told] = seen.get(told, 0) + 1
        self.assertEqual(3, len(seen))

    def test_least(self):
        parts = [("told", "never"), ("told", "must"), ("least", 1, "a", TOP, 0, 1)]
        self.assertEqual("must", asked(parts, [(), (("a", TOP),)]))
        self.assertEqual("never", asked(parts, [(("a", TOP),), (("a", TOP - 1),)]))
        self.assertEqual("never", asked(parts, [(), (("b", TOP),)]))

    def test_as(self):
        parts = [("told", "never"), ("told", "must"), ("as", 1, 0, "a", 0, 1)]
        for one, other, word in ((0, 0, "must"), (0, 1, "must"), (1, 0, "never"), (TOP, TOP, "must"), (TOP, TOP - 1, "never")):
            things = [(("a", amount),) if amount else () for amount in (one, other)]
            self.assertEqual(word, asked(parts, things))

    def test_nothing_is_changed(self):
        parts, things = copy.deepcopy(PARTS), [(("b", 2),), ()]
        asked(parts, things)
        self.assertEqual((PARTS, [(("b", 2),), ()]), (parts, things))

    def test_arguments_bear_the_told_names(self):
        self.assertEqual("must", asked(parts=[("told", "must")], things=[]))


if __name__ == "__main__":
    unittest.main()
