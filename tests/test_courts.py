import copy
import unittest

from likebook.courts import Courts
from likebook.errors import NoCourt
from kinds import assert_refused, many_names, no_courts

PAIRS = [("high", None), ("low", "high"), ("side", "high"), ("least", "low"), ("island", None)]


class Lines(unittest.TestCase):
    def test_lines(self):
        courts = Courts(PAIRS)
        self.assertEqual(["high"], courts.line("high"))
        self.assertEqual(["low", "high"], courts.line("low"))
        self.assertEqual(["side", "high"], courts.line("side"))
        self.assertEqual(["least", "low", "high"], courts.line("least"))
        self.assertEqual(["island"], courts.line("island"))

    def test_no_courts(self):
        assert_refused(self, NoCourt, Courts([]).line, "high")

    def test_a_long_line(self):
        names = many_names()
        courts = Courts(list(zip(names, [None] + names)))
        self.assertEqual(names[::-1], courts.line(names[-1]))

    def test_what_is_no_court_told(self):
        courts = Courts(PAIRS[:3])
        for thing in no_courts() + ["least", "island"]:
            assert_refused(self, NoCourt, courts.line, thing)

    def test_a_name_somewhat_longer_is_not_refused(self):
        self.assertEqual(["x" * 13], Courts([("x" * 13, None)]).line("x" * 13))

    def test_arguments_bear_the_told_names(self):
        self.assertEqual(["low", "high"], Courts(pairs=PAIRS).line(court="low"))


class Refused(unittest.TestCase):
    def test_a_court_told_twice(self):
        assert_refused(self, NoCourt, Courts, [("high", None), ("high", None)])
        assert_refused(self, NoCourt, Courts, PAIRS + [("low", "high")])
        assert_refused(self, NoCourt, Courts, PAIRS + [("low", "side")])
        assert_refused(self, NoCourt, Courts, PAIRS + [("low", None)])

    def test_one_above_that_does_not_stand_ahead(self):
        assert_refused(self, NoCourt, Courts, [("low", "high")])
        assert_refused(self, NoCourt, Courts, [("low", "high"), ("high", None)])
        assert_refused(self, NoCourt, Courts, [("low", "low")])
        assert_refused(self, NoCourt, Courts, [("high", None), ("low", "side"), ("side", "high")])

    def test_one_above_of_any_kind(self):
        for thing in no_courts():
            if thing is not None:
                assert_refused(self, NoCourt, Courts, PAIRS + [("new", thing)])


class HandedIn(unittest.TestCase):
    def test_nothing_is_changed(self):
        pairs = copy.deepcopy(PAIRS)
        Courts(pairs).line("low")
        self.assertEqual(PAIRS, pairs)
        wrong = PAIRS + [("low", None)]
        assert_refused(self, NoCourt, Courts, wrong)
        self.assertEqual(PAIRS + [("low", None)], wrong)

    def test_what_is_done_later_changes_nothing(self):
        pairs = list(PAIRS)
        courts = Courts(pairs)
        pairs[1] = ("low", None)
        pairs.append(("new", "low"))
        self.assertEqual(["low", "high"], courts.line("low"))
        assert_refused(self, NoCourt, courts.line, "new")

    def test_each_told_list_is_the_askers_own(self):
        courts = Courts(PAIRS)
        first, second = courts.line("low"), courts.line("low")
        first.append("side")
        first[0] = "side"
        self.assertEqual(["low", "high"], second)
        self.assertEqual(["low", "high"], courts.line("low"))


if __name__ == "__main__":
    unittest.main()
