"""Point 19: stretches, who stays through them, and what is owed."""

import unittest

from staysdeep.errors import InvalidSize
from staysdeep.stretches import balances, owed, stayers, stretch_at, stretches
from staysdeep.timetables import free_counts
from staysdeep.yards import Yard, cover_of, deep_places, layer, places
from tests.helpers import (
    SMALL_YARDS, TALLEST, Checks, all_timetables, names, plain_stayers, plain_stretches, some_timetables,
)

YARDS = ((1, 1, 1), (2, 1, 1), (1, 2, 3))


def plain_balances(heights, timetable):
    told = []
    for cover in range(max(heights)):
        needs = len([level for height in heights for level in range(height) if height - 1 - level >= cover])
        for first, last in plain_stretches(sum(heights), timetable, cover):
            told.append((cover, (first, last), len(plain_stayers(timetable, first, last)) - needs))
    return tuple(told)


class TestStretches(Checks):

    def test_small_timetables(self):
        for heights in YARDS:
            yard = Yard(heights)
            for timetable in all_timetables(sum(heights), 6):
                for cover in range(sum(heights) + 2):
                    found = plain_stretches(sum(heights), timetable, cover)
                    self.assert_same(stretches(yard, timetable, cover), found)
                    for state in range(len(timetable) + 1):
                        having = [pair for pair in found if pair[0] <= state <= pair[1]]
                        self.assert_same(stretch_at(yard, timetable, cover, state), having[0] if having else None)

    def test_full_yards(self):
        for yard, timetable in some_timetables(31, 40, 60):
            for cover in range(max(yard.heights) + 2):
                found = stretches(yard, timetable, cover)
                self.assert_same(found, plain_stretches(places(yard), timetable, cover))
                for state in range(0, len(timetable) + 1, 7):
                    having = [pair for pair in found if pair[0] <= state <= pair[1]]
                    self.assert_same(stretch_at(yard, timetable, cover, state), having[0] if having else None)

    def test_they_are_the_states_in_which_places_are_deep(self):
        for yard, timetable in some_timetables(32, 10, 60):
            counts = free_counts(yard, timetable)
            for stack, height in enumerate(yard.heights):
                for level in range(height):
                    cover = cover_of(yard, stack, level)
                    for state, free in enumerate(counts):
                        deep = (stack, level) in deep_places(yard, places(yard) - free)
                        self.assertIs(stretch_at(yard, timetable, cover, state) is not None, deep)

    def test_what_is_said_of_them(self):
        for yard, timetable in some_timetables(33, 30, 120):
            counts = free_counts(yard, timetable)
            for cover in range(places(yard)):
                found, wider = stretches(yard, timetable, cover), stretches(yard, timetable, cover + 1)
                for before, behind in zip(found, found[1:]):
                    self.assertIn(cover + 1, counts[before[1] + 1:behind[0]])
                comings = [at for at, event in enumerate(timetable) if event[0] == "in" and counts[at + 1] == cover]
                self.assertEqual(len(found), len(comings))
                for first, last in found:
                    self.assertTrue(any(begin <= first and last <= end for begin, end in wider))
                    self.assertGreaterEqual(len(stayers(yard, timetable, (first, first))), owed(yard, cover))

    def test_great_covers_have_all_states(self):
        yard, timetable = Yard((2, 1, 1)), (("in", "a"), ("out", "a"))
        for cover in (4, 5, 12, 1000, 10 ** 30):
            self.assert_same(stretches(yard, timetable, cover), ((0, 2),))
            self.assert_same(stretch_at(yard, timetable, cover, 1), (0, 2))
            self.assert_same(stretches(yard, (), cover), ((0, 0),))
        self.assert_same(stretches(yard, timetable, 3), ((1, 1),))
        self.assert_same(stretches(yard, (), 3), ())
        self.assert_same(stretch_at(yard, (), 3, 0), None)

    def test_the_example_of_the_overview(self):
        words = "in a in b in c in d out a in e out b in f out c".split()
        yard, timetable = Yard((2, 1, 1)), tuple(zip(words[::2], words[1::2]))
        self.assert_same(stretches(yard, timetable, 1), ((3, 9),))
        self.assert_same(stretches(yard, timetable, 0), ((4, 4), (6, 6), (8, 8)))
        self.assert_same(stayers(yard, timetable, (3, 9)), ())
        self.assert_same(balances(yard, timetable), ((0, (4, 4), 0), (0, (6, 6), 0), (0, (8, 8), 0), (1, (3, 9), -1)))

    def test_wrong_arguments(self):
        self.assert_timetable_first(stretches, 1)
        self.assert_timetable_first(stretch_at, 1, -1)
        yard, timetable = Yard((2, 1, 1)), (("in", "a"), ("out", "a"))
        for state in (-1, -3, 3, 4, 10 ** 30):
            for cover in (0, 3, 1000):
                self.assert_told(InvalidSize, "state", stretch_at, yard, timetable, cover, state)
        self.assert_told(InvalidSize, "state", stretch_at, yard, (), 1000, 1)


class TestOwed(Checks):

    def test_what_is_owed(self):
        for heights in SMALL_YARDS + ((12, 1, 1), (3, 7, 4, 12), TALLEST):
            yard = Yard(heights)
            for cover in list(range(14)) + [1000, 10 ** 30]:
                many = len([level for height in heights for level in range(height) if height - 1 - level >= cover])
                self.assert_same(owed(yard, cover), many)
            self.assertEqual([owed(yard, cover) - owed(yard, cover + 1) for cover in range(13)],
                             [len(layer(yard, cover)) for cover in range(13)])


class TestStayers(Checks):

    def test_small_timetables(self):
        yard = Yard((1, 1, 1))
        for timetable in all_timetables(3, 6):
            for first in range(len(timetable) + 1):
                for last in range(first, len(timetable) + 1):
                    self.assert_same(stayers(yard, timetable, (first, last)), plain_stayers(timetable, first, last))

    def test_pairs_that_are_no_states(self):
        yard, timetable = Yard((1, 1, 1)), (("in", "a"), ("out", "a"))
        for stretch in ((-1, 0), (0, 3), (2, 1), (1, 0), (3, 3), (-2, -1), (0, -1), (4, 1), (0, 10 ** 30)):
            self.assert_told(InvalidSize, "stretch", stayers, yard, timetable, stretch)
            self.assert_told(InvalidSize, "stretch", stayers, yard, (), (0, 1))
        self.assert_same(stayers(yard, timetable, [1, 1]), ("a",))
        self.assert_same(stayers(yard, (), (0, 0)), ())

    def test_wrong_timetables_come_first(self):
        self.assert_timetable_first(stayers, (-1, 0))
        self.assert_timetable_first(stayers, (0, 0))


class TestBalances(Checks):

    def test_small_timetables(self):
        for heights in YARDS:
            for timetable in all_timetables(sum(heights), 6):
                self.assert_same(balances(Yard(heights), timetable), plain_balances(heights, timetable))

    def test_full_yards(self):
        for yard, timetable in some_timetables(34, 40, 60):
            self.assert_same(balances(yard, timetable), plain_balances(yard.heights, timetable))

    def test_two_hundred_events_in_the_tallest_yard(self):
        lot = names(200)
        comings = tuple([("in", box) for box in lot[:144]])
        turns = tuple([event for at in range(28) for event in (("out", lot[at]), ("in", lot[144 + at]))])
        with self.within(10):
            self.assert_same(balances(Yard(TALLEST), comings)[0], (0, (144, 144), 0))
            told = balances(Yard(TALLEST), comings + turns)
            self.assertEqual(len(told), 29 + 11)
            self.assert_same(told[-1], (11, (133, 200), 133 - 28 - 12))
            self.assert_same(told[29], (1, (143, 200), 143 - 28 - 132))
        self.assert_same(balances(Yard(TALLEST), ()), ())

    def test_wrong_timetables(self):
        self.assert_timetable_first(balances)


if __name__ == "__main__":
    unittest.main()
