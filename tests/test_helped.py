"""Points 43 and 44: what of a timetable counts, the weakest yard for it, and the fewest further places."""

import random
import unittest
from itertools import combinations_with_replacement

from staysdeep.compared import all_boxes, best_yard, carries_all, levelled, parted_by
from staysdeep.errors import InvalidSize
from staysdeep.helped import fewest_places, further_stack, stay_row, weakest_yard
from staysdeep.yards import Yard, deep_count, places
from tests.helpers import (
    STUCK, TALLEST, Checks, all_timetables, busy_timetable, drawn_timetable, names, plain_states, plain_stayers,
)
from tests.test_compared import carries, sloping


def plain_row(timetable):
    """For each number of boxes the fewest that stay through a longest row of states with no fewer."""
    counts, row = [len(there) for there in plain_states(timetable)], []
    for boxes in range(1, max(counts) + 1):
        stay = []
        for first in range(len(counts)):
            for last in range(first, len(counts)):
                ends = (first == 0 or counts[first - 1] < boxes) and (last == len(counts) - 1 or counts[last + 1] < boxes)
                if ends and min(counts[first:last + 1]) >= boxes:
                    stay.append(len(plain_stayers(timetable, first, last)))
        row.append(min(stay))
    return tuple(row)


def some_rows(seed, many, room=7, length=24):
    """Timetables with at most so many boxes at a time, some of which keep the yard full for long."""
    draw = random.Random(seed)
    told = [busy_timetable(draw, room, draw.randrange(1, length), draw.randrange(1, room)) for _ in range(many)]
    return told + [drawn_timetable(draw, draw.randrange(1, room + 1), draw.randrange(length)) for _ in range(many)]


def plain_carries(heights, row):
    """Whether a yard with such heights carries out a timetable with this row, as point 43 tells."""
    free = [sum(heights) - boxes for boxes in range(1, len(row) + 1)]
    deep = [sum(height - many for height in heights if height > many) for many in free]
    return sum(heights) >= len(row) and all(many <= most for many, most in zip(deep, row))


class TestStayRow(Checks):

    def test_all_short_timetables(self):
        for timetable in all_timetables(4, 7):
            self.assert_same(stay_row(timetable), plain_row(timetable))

    def test_others(self):
        for timetable in some_rows(270, 60):
            self.assert_same(stay_row(timetable), plain_row(timetable))

    def test_nothing_but_the_row_counts(self):
        told = []
        for timetable in some_rows(271, 30):
            row = stay_row(timetable)
            for heights in [heights for total in (3, 5, 6, 7, 8, 9) for heights in sloping(total)]:
                fits = sum(heights) >= len(row) and all(
                    deep_count(Yard(heights), boxes + 1) <= most for boxes, most in enumerate(row))
                self.assertIs(carries(heights, timetable), fits)
                told.append(fits)
        self.assertGreater(min(told.count(True), told.count(False)), 200)

    def test_ends(self):
        self.assert_same(stay_row(()), ())
        self.assert_same(stay_row((("in", "a"),)), (1,))
        self.assert_same(stay_row(timetable=(("in", "a"), ("out", "a"), ("in", "b"), ("in", "c"))), (1, 2))
        self.assert_same(stay_row(STUCK), (0, 0, 0, 4))
        with self.within(5):
            lot = names(200)
            self.assert_same(stay_row(tuple([("in", box) for box in lot])), tuple(range(1, 201)))
            turns = tuple([event for box in lot[:100] for event in (("in", box), ("out", box))])
            self.assert_same(stay_row(turns), (1,))


class TestWeakestYard(Checks):

    def test_of_all_yards(self):
        told = []
        for timetable in some_rows(272, 40):
            for total, stacks in ((3, 3), (6, 3), (7, 3), (8, 4), (9, 3), (10, 5), (12, 4)):
                fit = [heights for heights in sloping(total, [stacks]) if carries(heights, timetable)]
                weakest = weakest_yard(timetable, total, stacks)
                self.assertIs(weakest is None, not fit)
                self.assertIs(carries(best_yard(total, stacks).heights, timetable), bool(fit))
                if fit:
                    self.assertIn(weakest.heights, fit)
                    for heights in sloping(total, [stacks]):
                        self.assertIs(heights in fit, carries_all(Yard(heights), weakest))
                    told.append(weakest.heights)
                else:
                    told.append(None)
        self.assertGreater(len(set(told)), 20)

    def test_ends(self):
        events = parted_by(Yard((4, 1, 1, 1)), Yard((3, 3, 1)))
        self.assertEqual(weakest_yard(timetable=events, total=7, stacks=3).heights, (3, 3, 1))
        self.assertEqual(weakest_yard((), 14, 3).heights, (12, 1, 1))
        self.assertEqual(weakest_yard((), 3, 3).heights, (1, 1, 1))
        self.assertEqual(weakest_yard((), 26, 3).heights, (12, 12, 2))
        self.assertEqual(weakest_yard((), 144, 12).heights, TALLEST)
        self.assertEqual(weakest_yard((), 12, 12).heights, (1,) * 12)
        self.assertEqual(weakest_yard((), 78, 12).heights, (12,) * 6 + (1,) * 6)
        self.assertIs(weakest_yard(STUCK, 3, 3), None)
        self.assertIs(weakest_yard(STUCK, 4, 3), None)
        self.assertEqual(weakest_yard(STUCK, 4, 4).heights, (1, 1, 1, 1))
        for total, stacks in ((3, 2), (144, 13), (0, 0), (-1, 10 ** 30)):
            self.assert_told(InvalidSize, "stacks", weakest_yard, STUCK, total, stacks)
        for total, stacks in ((2, 3), (37, 3), (11, 12), (145, 12), (-10 ** 30, 3)):
            self.assert_told(InvalidSize, "total", weakest_yard, STUCK, total, stacks)

    def test_limits(self):
        draw, told = random.Random(273), []
        with self.within(20):
            for room in (20, 40, 100, 144):
                for low in (3, 12, 15):
                    timetable = busy_timetable(draw, room, 200, room - low)
                    for total, stacks in ((144, 12), (78, 12), (36, 3), (100, 9)):
                        weakest = weakest_yard(timetable, total, stacks)
                        told.append(weakest is None)
                        row = stay_row(timetable)
                        self.assertIs(weakest is None, not plain_carries(best_yard(total, stacks).heights, row))
                        if weakest is not None:
                            self.assertTrue(plain_carries(weakest.heights, row))
                            self.assertEqual((places(weakest), len(weakest.heights)), (total, stacks))
                            self.check_no_weaker(weakest.heights, row)
        self.assertEqual(set(told), {True, False})

    def check_no_weaker(self, heights, row):
        """No yard with one place more on a higher stack, and one less on a lower one, will do."""
        for high in range(len(heights)):
            for low in range(high + 1, len(heights)):
                other = list(heights)
                other[high], other[low] = other[high] + 1, other[low] - 1
                if other[high] <= 12 and other[low] >= 1:
                    self.assertFalse(plain_carries(other, row))


class TestFurtherPlaces(Checks):

    def test_fewest_places(self):
        told = []
        for timetable in some_rows(274, 40, room=9):
            for heights in ((1, 1, 1), (2, 1, 1), (3, 1, 1), (4, 2, 1), (1, 1, 1, 1), (6, 1, 1)):
                fewest, row = fewest_places(Yard(heights), timetable), stay_row(timetable)
                most = 12 * len(heights) - sum(heights)
                good = [more for more in range(most + 1) if carries(levelled(Yard(heights), more).heights, timetable)]
                self.assert_same(fewest, min(good, default=None))
                self.assertEqual(good, list(range(most + 1))[most + 1 - len(good):])
                # However fewer places are put on the stacks, they are not enough.
                for more in range(min(fewest if fewest is not None else 4, 5)):
                    for way in combinations_with_replacement(range(len(heights)), more):
                        self.assertFalse(plain_carries([height + way.count(at) for at, height in enumerate(heights)], row))
                told.append(fewest)
        self.assertGreaterEqual(set(told), {0, 1, 2, 3, 4})

    def test_fewest_ends(self):
        events = parted_by(Yard((4, 1, 1, 1)), Yard((3, 3, 1)))
        self.assert_same(fewest_places(yard=Yard((4, 1, 1, 1)), events=events), 1)
        self.assert_same(fewest_places(Yard((1, 1, 1)), ()), 0)
        self.assert_same(fewest_places(Yard((1, 1, 1)), STUCK), 2)
        self.assert_same(fewest_places(Yard((2, 1, 1)), STUCK), 1)
        with self.within(10):
            lot = names(200)
            for many, wanted in ((36, (33, 24, 0)), (144, (None, 132, 0)), (145, (None,) * 3), (200, (None,) * 3)):
                comings = tuple([("in", box) for box in lot[:many]])
                for heights, more in zip(((1, 1, 1), (1,) * 12, TALLEST), wanted):
                    self.assert_same(fewest_places(Yard(heights), comings), more)

    def test_further_stacks(self):
        told = []
        for timetable in some_rows(275, 40, room=9):
            row = stay_row(timetable)
            for heights in ((1, 1, 1), (2, 1, 1), (3, 1, 1), (4, 2, 1), (1, 1, 1, 1), (6, 1, 1), (2, 2, 2)):
                least = further_stack(Yard(heights), timetable)
                good = [more for more in range(60) if plain_carries(heights + (more,), row)]
                self.assert_same(least, min(good, default=None))
                none = any(boxes > sum(heights) and stay < boxes - sum(heights) for boxes, stay in enumerate(row, 1))
                self.assertIs(least is None, none)
                if least is not None:
                    self.assertTrue(plain_carries(heights + (max(0, len(row) - all_boxes(Yard(heights))),), row))
                    if least <= 12:
                        self.assertTrue(carries(heights + (least,) if least else heights, timetable))
                    if 1 < least <= 13:
                        self.assertFalse(carries(heights + (least - 1,), timetable))
                    self.assertIs(least == 0, carries(heights, timetable))
                told.append(least)
        self.assertGreaterEqual(set(told), {None, 0, 1, 2, 3})

    def test_further_ends(self):
        events = parted_by(Yard((4, 1, 1, 1)), Yard((3, 3, 1)))
        self.assert_same(further_stack(yard=Yard((4, 1, 1, 1)), events=events), 1)
        self.assert_same(further_stack(Yard((1, 1, 1)), ()), 0)
        self.assert_same(further_stack(Yard(TALLEST), ()), 0)
        self.assert_same(further_stack(Yard((1, 1, 1)), STUCK), 1)
        # Behind four comings there are never fewer boxes; one of them must stay, lowest in the further stack.
        comings = tuple([("in", box) for box in "abcde"])
        turns = tuple([event for one, other in zip("abc", "fgh") for event in (("out", one), ("in", other))])
        self.assert_same(further_stack(Yard((1, 1, 1)), comings + turns), 2)
        self.assert_same(further_stack(Yard((1, 1, 1)), comings + turns + (("out", "d"),)), None)
        # The low boxes may lie in the further stack for ever.
        comings = tuple([("in", box) for box in names(40)])
        self.assert_same(further_stack(Yard((1, 1, 1)), comings), 37)
        self.assert_same(further_stack(Yard((12, 1, 1)), comings), 26)
        self.assert_same(further_stack(Yard((1,) * 12), comings), 28)
        self.assert_same(further_stack(Yard((1, 1, 1)), comings + tuple([("out", box) for box in names(40)[:36:-1]])), 37)
        self.assert_same(further_stack(Yard((1, 1, 1)), comings + tuple([("out", box) for box in names(40)[::-1]])), 37)
        self.assert_same(further_stack(Yard((1, 1, 1)), comings + tuple([("out", box) for box in names(40)])), None)

    def test_limits(self):
        draw, told = random.Random(276), []
        with self.within(20):
            for heights in ((1, 1, 1), (12, 1, 1), (3,) * 12, (1,) * 12, (6, 6, 6, 6), (10, 12, 12)):
                for low in (3, 8, 20, 37):
                    timetable = busy_timetable(draw, 40, 200, 40 - low)
                    row = stay_row(timetable)
                    good = [more for more in range(200) if plain_carries(heights + (more,), row)]
                    self.assert_same(further_stack(Yard(heights), timetable), min(good, default=None))
                    told.append(min(good, default=None))
        self.assertGreater(len(set(told)), 3)


if __name__ == "__main__":
    unittest.main()
