"""Point 45: yards that carry out a timetable, and timetables that a yard carries out, counted and numbered."""

import random
import unittest
from functools import lru_cache
from itertools import groupby, product
from math import factorial

from staysdeep.compared import all_boxes
from staysdeep.counted import count_timetables, count_yards, nth_timetable, timetable_number
from staysdeep.errors import InvalidSize, Refused
from staysdeep.helped import stay_row
from staysdeep.yards import Yard, places
from tests.helpers import STUCK, TALLEST, Checks, busy_timetable, drawn_yard, names, plain_stuck
from tests.test_compared import carries, sloping
from tests.test_helped import plain_carries, some_rows


@lru_cache(maxsize=None)
def whole_timetables(lot):
    """All rows of events that bring and take each box of a lot once, ascending."""
    told = [()]
    for _ in range(2 * len(lot)):
        further = []
        for events in told:
            came = {box for word, box in events if word == "in"}
            gone = {box for word, box in events if word == "out"}
            further += [events + (("in", box),) for box in lot if box not in came]
            further += [events + (("out", box),) for box in lot if box in came - gone]
        told = further
    return sorted(told)


def good_ones(heights, lot):
    return [events for events in whole_timetables(lot) if carries(heights, events)]


YARDS = ((1, 1, 1), (2, 1, 1), (1, 3, 1), (2, 2, 1), (4, 1, 1), (1, 1, 1, 1))


class TestCountYards(Checks):

    def test_all_yards_of_three_and_four_stacks(self):
        told = []
        for timetable in some_rows(280, 25, room=9) + [(), STUCK, (("in", "a"),)]:
            for total, stacks in ((3, 3), (5, 3), (9, 3), (14, 3), (35, 3), (36, 3), (4, 4), (8, 4), (10, 4)):
                yards = [heights for heights in product(range(1, min(12, total - stacks + 1) + 1), repeat=stacks)
                         if sum(heights) == total]
                wanted = len([heights for heights in yards if carries(heights, timetable)])
                self.assert_same(count_yards(timetable, total, stacks), wanted)
                told.append((wanted, len(yards)))
        self.assertGreater(len([many for many, most in told if 0 < many < most]), 10)
        self.assertGreater(len([many for many, _ in told if many == 0]), 10)

    def test_twelve_stacks(self):
        draw = random.Random(281)
        for total, low in ((24, 3), (20, 8), (30, 2)):
            timetable = busy_timetable(draw, total, 120, total - low)
            row, wanted = stay_row(timetable), 0
            for heights in sloping(total, [12]):
                ways = factorial(12)
                for _, alike in groupby(heights):
                    ways //= factorial(len(list(alike)))
                wanted += ways if plain_carries(heights, row) else 0
            self.assert_same(count_yards(timetable, total, 12), wanted)

    def test_ends(self):
        self.assert_same(count_yards(timetable=(), total=3, stacks=3), 1)
        self.assert_same(count_yards((), 144, 12), 1)
        self.assert_same(count_yards((), 143, 12), 12)
        self.assert_same(count_yards((), 12, 12), 1)
        self.assert_same(count_yards((), 13, 12), 12)
        self.assert_same(count_yards(STUCK, 3, 3), 0)
        self.assert_same(count_yards(STUCK, 4, 3), 0)
        self.assert_same(count_yards(STUCK, 4, 4), 1)
        lot = names(200)
        with self.within(10):
            comings = tuple([("in", box) for box in lot[:144]])
            self.assert_same(count_yards(comings, 144, 12), 1)
            self.assert_same(count_yards(comings, 143, 12), 0)
            self.assert_same(count_yards(tuple([("in", box) for box in lot]), 144, 12), 0)
            turns = tuple([event for at in range(100) for event in (("in", lot[at]), ("out", lot[at]))])
            # Of all ways to give 12 stacks 78 places, 1 to 12 each, all will do.
            ways = [1] + [0] * 78
            for _ in range(12):
                ways = [sum(ways[total - height] for height in range(1, 13) if height <= total) for total in range(79)]
            self.assert_same(count_yards(turns, 78, 12), ways[78])

    def test_wrong_numbers(self):
        for total, stacks in ((3, 2), (144, 13), (0, 0), (-1, 10 ** 30)):
            self.assert_told(InvalidSize, "stacks", count_yards, STUCK, total, stacks)
        for total, stacks in ((2, 3), (37, 3), (11, 12), (145, 12), (-10 ** 30, 3)):
            self.assert_told(InvalidSize, "total", count_yards, STUCK, total, stacks)


class TestCountTimetables(Checks):

    def test_all_timetables(self):
        for heights in YARDS:
            for boxes in range(5):
                self.assert_same(count_timetables(Yard(heights), boxes), len(good_ones(heights, tuple("abcd"[:boxes]))))
        self.assert_same(len(whole_timetables(tuple("abcd"))), 2520)

    def test_a_plain_search(self):
        for heights in ((1, 1, 1), (2, 1, 1)):
            fit = [events for events in whole_timetables(("a", "b", "c")) if plain_stuck(heights, events) is None]
            self.assert_same(count_timetables(Yard(heights), 3), len(fit))

    def test_all_if_they_are_few(self):
        for heights in YARDS + ((12, 1, 1), (1,) * 12, (3, 3, 3), TALLEST, (12, 12, 12), (5, 4, 3)):
            for boxes in range(9):
                rows = factorial(2 * boxes) // 2 ** boxes
                many = count_timetables(Yard(heights), boxes)
                self.assertLessEqual(many, rows)
                if boxes <= all_boxes(Yard(heights)):
                    self.assert_same(many, rows)
                elif boxes > places(Yard(heights)):
                    self.assertLess(many, rows)

    def test_ends(self):
        self.assert_same(count_timetables(yard=Yard((2, 1, 1)), boxes=5), 99000)
        self.assert_same(count_timetables(Yard((1, 1, 1)), 0), 1)
        self.assert_same(count_timetables(Yard((1, 1, 1)), 1), 1)
        # More boxes than places: never more than three at a time.
        self.assert_same(count_timetables(Yard((1, 1, 1)), 4), len(good_ones((1, 1, 1), tuple("abcd"))))
        with self.within(20):
            for heights in YARDS + ((6, 1, 1), (12, 1, 1), (3, 2, 2), (2, 2, 2), TALLEST):
                self.assertGreater(count_timetables(Yard(heights), 8), 0)


class TestNumbers(Checks):

    def test_all_of_three_boxes(self):
        for heights in YARDS:
            for lot in ((), ("x",), ("a", "b"), ("a", "bb", "z")):
                good = good_ones(heights, lot)
                self.assert_same([nth_timetable(Yard(heights), lot, at) for at in range(len(good))], good)
                self.assert_same([timetable_number(Yard(heights), events) for events in good], list(range(len(good))))
                for number in (-1, len(good), 10 ** 30):
                    self.assert_told(InvalidSize, "number", nth_timetable, Yard(heights), lot, number)

    def test_some_of_four_boxes(self):
        lot = tuple("abcd")
        for heights in YARDS:
            good = good_ones(heights, lot)
            for at in list(range(0, len(good), 97)) + [len(good) - 1]:
                self.assert_same(nth_timetable(yard=Yard(heights), lot=lot, number=at), good[at])
                self.assert_same(timetable_number(yard=Yard(heights), timetable=good[at]), at)
            self.assert_told(InvalidSize, "number", nth_timetable, Yard(heights), lot, len(good))

    def test_eight_boxes(self):
        draw = random.Random(282)
        with self.within(30):
            for heights in YARDS + ((6, 1, 1), (3, 2, 2), TALLEST, (12, 1, 1)):
                many = count_timetables(Yard(heights), 8)
                for number in (0, many - 1, draw.randrange(many), draw.randrange(many)):
                    events = nth_timetable(Yard(heights), tuple("abcdefgh"), number)
                    self.assertTrue(carries(heights, events))
                    self.assertEqual(len(set(events)), 16)
                    self.assert_same(timetable_number(Yard(heights), events), number)
                self.assert_told(InvalidSize, "number", nth_timetable, Yard(heights), tuple("abcdefgh"), many)
                first = nth_timetable(Yard(heights), tuple("abcdefgh"), 0)
                self.assertLess(first, nth_timetable(Yard(heights), tuple("abcdefgh"), 1))

    def test_what_has_no_number(self):
        yard = Yard((2, 1, 1))
        self.assert_timetable_first(timetable_number)
        for events in (STUCK, STUCK[:8], (("in", "a"),)):
            self.assert_told(Refused, "boxes", timetable_number, yard, events)
        away = STUCK + tuple([("out", box) for box in "def"])
        self.assert_told(Refused, "stuck", timetable_number, yard, away)
        self.assertGreaterEqual(timetable_number(Yard((1, 1, 1, 1)), away), 0)
        self.assert_same(timetable_number(yard, ()), 0)

    def test_drawn_yards(self):
        draw = random.Random(283)
        for _ in range(20):
            yard, lot = drawn_yard(draw, heights=(1, 1, 2, 3)), tuple("abcdefgh"[:draw.randrange(9)])
            many = count_timetables(yard, len(lot))
            number = draw.randrange(many)
            self.assert_same(timetable_number(yard, nth_timetable(yard, lot, number)), number)


if __name__ == "__main__":
    unittest.main()
