"""Points 40 to 42: which yard carries out what another one does, and what both or either of them do."""

import random
import unittest
from functools import lru_cache
from itertools import combinations_with_replacement, product

from staysdeep.compared import (
    all_boxes, best_yard, carries_all, common_yard, either_yard, least_trouble, levelled, parted_by,
)
from staysdeep.court import Dealt, court
from staysdeep.errors import InvalidSize, InvalidTimetable, Refused
from staysdeep.timetables import need_timetable
from staysdeep.yards import Yard, deep_count, places
from tests.helpers import TALLEST, Checks, all_timetables, drawn_yard, plain_stuck


@lru_cache(maxsize=None)
def short_timetables(room, length):
    """All timetables of at most so many events, by their numbers of boxes at a time."""
    return all_timetables(room, length)


@lru_cache(maxsize=None)
def carries(heights, timetable):
    """Whether a yard carries out a timetable, as point 40 tells."""
    try:
        need_timetable(Yard(heights), timetable)
    except InvalidTimetable:
        return False
    return isinstance(court(Yard(heights), timetable), Dealt)


def sloping(total, stacks=range(3, 13), highest=12):
    """The heights of all yards with so many places, the highest stacks first."""
    told = []
    for many in stacks:
        told += sloping_rows(total, many, highest)
    return told


def sloping_rows(total, stacks, highest):
    if stacks == 0:
        return [()] if total == 0 else []
    rows = []
    for height in range(min(total, highest), 0, -1):
        if height * stacks >= total:
            rows += [(height,) + rest for rest in sloping_rows(total - height, stacks - 1, height)]
    return rows


FEW = [heights for total in (3, 4, 5) for heights in sloping(total)]
MORE = [heights for total in range(3, 10) for heights in sloping(total)]


def plain_fewest(heights, other):
    """The number of events that point 40 tells for `parted_by`, or None."""
    one, two, found = Yard(heights), Yard(other), []
    if sum(other) > sum(heights):
        found.append(sum(heights) + 1)
    for boxes in range(min(sum(heights) + 1, sum(other))):
        if deep_count(one, boxes) > deep_count(two, boxes):
            found.append(3 * boxes + 2 - 2 * deep_count(one, boxes))
    return min(found, default=None)


class TestCarries(Checks):

    def test_by_all_short_timetables(self):
        for heights, other in product(FEW, repeat=2):
            rows = [timetable for timetable in short_timetables(5, 7) if carries(other, timetable)]
            all_of_them = all(carries(heights, timetable) for timetable in rows)
            told = carries_all(Yard(heights), Yard(other))
            if told:
                self.assertTrue(all_of_them)
            elif all_of_them:
                # What shows it is longer.
                self.assertGreater(plain_fewest(heights, other), 7)
            self.assertIs(told, plain_fewest(heights, other) is None)

    def test_by_the_highest_stacks(self):
        for heights, other in product(MORE, repeat=2):
            if sum(heights) == sum(other):
                wanted = all(sum(heights[:many]) <= sum(other[:many]) for many in range(1, 13))
                self.assertIs(carries_all(Yard(heights), Yard(other)), wanted)
            both = carries_all(Yard(heights), Yard(other)) and carries_all(Yard(other), Yard(heights))
            self.assertIs(both, heights == other)

    def test_the_order_of_the_heights_does_not_count(self):
        draw = random.Random(260)
        for _ in range(60):
            one, other = drawn_yard(draw), drawn_yard(draw)
            turned = Yard(draw.sample(one.heights, len(one.heights)))
            self.assertTrue(carries_all(one, turned) and carries_all(turned, one))
            self.assertIs(carries_all(turned, other), carries_all(one, other))
            self.assertIs(carries_all(other, turned), carries_all(other, one))
            self.assertIs(carries_all(one, other), parted_by(one, other) is None)

    def test_ends(self):
        tall, flat = Yard((4, 1, 1, 1)), Yard((3, 3, 1))
        self.assertIs(carries_all(tall, flat), False)
        self.assertIs(carries_all(yard=flat, other=tall), False)
        self.assertIs(carries_all(Yard(TALLEST), Yard((1, 1, 1))), True)
        self.assertIs(carries_all(Yard((1, 1, 1)), Yard(TALLEST)), False)
        self.assertIs(carries_all(Yard(TALLEST), Yard((12, 1, 1))), True)
        self.assertIs(carries_all(Yard((1,) * 12), Yard((12, 1, 1))), False)
        self.assertIs(carries_all(Yard((12, 1, 1)), Yard((1,) * 12)), False)
        self.assertIs(carries_all(Yard((2, 1, 1)), Yard((1, 1, 1))), True)


class TestPartedBy(Checks):

    def check_parted(self, heights, other):
        timetable, fewest = parted_by(Yard(heights), Yard(other)), plain_fewest(heights, other)
        if fewest is None:
            self.assertIs(timetable, None)
        else:
            self.assertEqual(len(timetable), fewest)
            self.assertIsNone(need_timetable(Yard(other), timetable))
            self.assertTrue(carries(other, timetable))
            self.assertFalse(carries(heights, timetable))
        return fewest

    def test_no_fewer_events_are_enough(self):
        told = []
        for heights, other in product(FEW, repeat=2):
            fewest = self.check_parted(heights, other)
            told.append(fewest)
            if fewest is not None:
                for timetable in short_timetables(5, 7):
                    if len(timetable) < fewest:
                        self.assertFalse(carries(other, timetable) and not carries(heights, timetable))
        self.assertGreaterEqual(set(told), {None, 4, 5, 9})

    def test_by_a_plain_search(self):
        for heights, other in (((2, 1, 1), (1, 1, 1, 1)), ((3, 1, 1), (2, 2, 1)), ((2, 1, 1), (2, 2, 1)), ((3, 1, 1), (1,) * 5)):
            timetable = parted_by(Yard(heights), Yard(other))
            self.assertIsNone(plain_stuck(other, timetable))
            if len([event for event in timetable if event[0] == "in"]) <= sum(heights):
                self.assertIsNotNone(plain_stuck(heights, timetable))

    def test_yards_of_all_kinds(self):
        draw = random.Random(261)
        for heights, other in product(MORE[::3], MORE[1::4]):
            self.check_parted(heights, other)
        for _ in range(150):
            self.check_parted(drawn_yard(draw).heights, drawn_yard(draw).heights)

    def test_ends(self):
        self.assertIs(parted_by(yard=Yard((2, 1, 1)), other=Yard((1, 1, 2))), None)
        self.assertEqual(len(parted_by(yard=Yard((4, 1, 1, 1)), other=Yard((3, 3, 1)))), 12)
        with self.within(5):
            self.assertEqual(len(parted_by(Yard((12,) * 11 + (11,)), Yard(TALLEST))), 144)
            self.check_parted((12,) * 12, (12,) * 12)
            self.check_parted((12, 1, 1), (1,) * 12)
            self.check_parted((1,) * 12, (12, 1, 1))


class TestBoth(Checks):

    def test_common_yards(self):
        for heights, other in product(MORE[::2], MORE):
            yard, one, two = common_yard(Yard(heights), Yard(other)), Yard(heights), Yard(other)
            self.assertEqual(list(yard.heights), sorted(yard.heights, reverse=True))
            self.assertEqual(places(yard), min(sum(heights), sum(other)))
            for boxes in range(places(yard)):
                self.assertEqual(deep_count(yard, boxes), max(deep_count(one, boxes), deep_count(two, boxes)))
            self.assertTrue(carries_all(one, yard) and carries_all(two, yard))
            self.assertEqual(common_yard(two, one), yard)

    def test_what_both_carry_out(self):
        for heights, other in product(FEW, repeat=2):
            common = common_yard(Yard(heights), Yard(other)).heights
            for timetable in short_timetables(5, 6) + least_ones(heights, other):
                self.assertIs(carries(common, timetable), carries(heights, timetable) and carries(other, timetable))
        for heights, other in product(MORE[::4], MORE[1::5]):
            common = common_yard(Yard(heights), Yard(other))
            for third in MORE[::2]:
                both = carries_all(Yard(heights), Yard(third)) and carries_all(Yard(other), Yard(third))
                self.assertIs(carries_all(common, Yard(third)), both)

    def test_common_ends(self):
        self.assertEqual(common_yard(yard=Yard((4, 1, 1, 1)), other=Yard((3, 3, 1))).heights, (4, 2, 1))
        self.assertEqual(common_yard(Yard((12, 1, 1)), Yard((1,) * 12)).heights, (10, 1, 1))
        self.assertEqual(common_yard(Yard(TALLEST), Yard((1, 1, 1))).heights, (1, 1, 1))
        self.assertEqual(common_yard(Yard((1, 2, 12)), Yard((12, 2, 1))).heights, (12, 2, 1))
        draw = random.Random(262)
        for _ in range(80):
            one, two = drawn_yard(draw), drawn_yard(draw)
            yard = common_yard(one, two)
            self.assertTrue(carries_all(one, yard) and carries_all(two, yard))
            if carries_all(one, two):
                self.assertEqual(yard.heights, tuple(sorted(two.heights, reverse=True)))

    def test_either_yards(self):
        for total in range(3, 11):
            rows = sloping(total)
            for heights, other in product(rows[::2], rows):
                yard = either_yard(Yard(heights), Yard(other[::-1]))
                self.assertEqual(list(yard.heights), sorted(yard.heights, reverse=True))
                self.assertEqual(places(yard), total)
                self.assertEqual(either_yard(Yard(other), Yard(heights[::-1])), yard)
                for third in rows[::3] + [heights, other]:
                    both = carries_all(Yard(third), Yard(heights)) and carries_all(Yard(third), Yard(other))
                    self.assertIs(carries_all(Yard(third), yard), both)

    def test_either_ends(self):
        self.assertEqual(either_yard(yard=Yard((4, 1, 1, 1)), other=Yard((3, 3, 1))).heights, (3, 2, 1, 1))
        self.assertEqual(either_yard(Yard(TALLEST), Yard(TALLEST)), Yard(TALLEST))
        self.assertEqual(either_yard(Yard((10, 1, 1)), Yard((1,) * 12)).heights, (1,) * 12)
        for heights, other in (((1, 1, 1), (2, 1, 1)), ((12, 12, 12), (12, 12, 11)), ((1, 1, 1), TALLEST)):
            self.assert_told(Refused, "places", either_yard, Yard(heights), Yard(other))


def least_ones(heights, other):
    """What parts two yards, and what either does not carry out."""
    told = [parted_by(Yard(heights), Yard(other)), parted_by(Yard(other), Yard(heights)), least_trouble(Yard(heights))]
    return [timetable for timetable in told if timetable is not None]


class TestHelp(Checks):

    def test_best_yards(self):
        for total in range(3, 14):
            for stacks in range(3, min(total, 12) + 1):
                best = best_yard(total, stacks)
                self.assertEqual((places(best), len(best.heights)), (total, stacks))
                self.assertLessEqual(max(best.heights) - min(best.heights), 1)
                self.assertEqual(list(best.heights), sorted(best.heights, reverse=True))
                for heights in sloping(total, range(3, stacks + 1)):
                    self.assertTrue(carries_all(best, Yard(heights)))

    def test_best_ends(self):
        self.assertEqual(best_yard(total=3, stacks=3).heights, (1, 1, 1))
        self.assertEqual(best_yard(144, 12).heights, TALLEST)
        self.assertEqual(best_yard(143, 12).heights, (12,) * 11 + (11,))
        self.assertEqual(best_yard(36, 3).heights, (12, 12, 12))
        self.assertEqual(best_yard(11, 3).heights, (4, 4, 3))
        for total, stacks in ((3, 2), (144, 13), (0, 0), (5, -1), (5, 10 ** 30), (-1, 2), (10 ** 30, 0)):
            self.assert_told(InvalidSize, "stacks", best_yard, total, stacks)
        for total, stacks in ((2, 3), (37, 3), (0, 3), (-5, 3), (11, 12), (145, 12), (10 ** 30, 12)):
            self.assert_told(InvalidSize, "total", best_yard, total, stacks)

    def test_levelled(self):
        for heights in ((1, 1, 1), (2, 1, 1), (1, 3, 2), (4, 1, 1, 1), (3, 3, 1)):
            for more in range(7):
                best, ways = levelled(Yard(heights), more), combinations_with_replacement(range(len(heights)), more)
                self.assertEqual(places(best), sum(heights) + more)
                for way in set(ways):
                    other = [height + way.count(stack) for stack, height in enumerate(heights)]
                    self.assertTrue(carries_all(best, Yard(other)))

    def test_levelled_place_for_place(self):
        self.assertEqual(levelled(Yard((3, 3, 1)), 3).heights, (4, 3, 3))
        self.assertEqual([levelled(yard=Yard((2, 1, 4)), more=more).heights for more in range(8)], [
            (2, 1, 4), (2, 2, 4), (3, 2, 4), (3, 3, 4), (4, 3, 4), (4, 4, 4), (5, 4, 4), (5, 5, 4)])
        self.assertEqual(levelled(Yard((1,) * 12), 132).heights, TALLEST)
        self.assertEqual(levelled(Yard(TALLEST), 0), Yard(TALLEST))
        self.assertEqual(levelled(Yard((1, 12, 5)), 18).heights, (12, 12, 12))
        for heights, more in (((1, 12, 5), 19), ((1, 1, 1), -1), (TALLEST, 1), ((1, 1, 1), 34), ((1, 1, 1), 10 ** 30)):
            self.assert_told(InvalidSize, "more", levelled, Yard(heights), more)

    def test_all_boxes(self):
        for heights in MORE:
            many = all_boxes(Yard(heights))
            self.assert_same(many, sum(heights) - max(heights) + 1)
            trouble = least_trouble(Yard(heights))
            if many < sum(heights):
                counts = boxes_at_a_time(trouble)
                self.assertGreater(max(counts), many)
            else:
                self.assertIs(trouble, None)
        for heights in FEW:
            within = [row for row in short_timetables(5, 7) if max(boxes_at_a_time(row)) <= all_boxes(Yard(heights))]
            self.assertTrue(all(carries(heights, row) for row in within))
        self.assert_same(all_boxes(yard=Yard(TALLEST)), 133)
        self.assert_same(all_boxes(Yard((12, 1, 1))), 3)
        # With one box more there is a timetable that is not carried out.
        self.assert_same(plain_stuck((2, 1, 1), least_trouble(Yard((2, 1, 1)))), 8)

    def test_least_trouble(self):
        told = []
        for heights in MORE + [(12, 1, 1), (12, 12, 12), TALLEST, (1,) * 12, (12,) + (1,) * 11, (2,) + (1,) * 11]:
            yard, timetable = Yard(heights), least_trouble(Yard(heights))
            counts = [(boxes, deep_count(yard, boxes)) for boxes in range(sum(heights)) if deep_count(yard, boxes)]
            fewest = min([3 * boxes + 2 - 2 * deep for boxes, deep in counts], default=None)
            if fewest is None:
                self.assertEqual(max(heights), 1)
                self.assertIs(timetable, None)
            else:
                self.assertEqual(len(timetable), fewest)
                self.assertIsNone(need_timetable(yard, timetable))
                self.assertFalse(carries(heights, timetable))
                told.append(fewest)
        self.assertGreater(len(set(told)), 8)

    def test_no_shorter_trouble(self):
        for heights in ((2, 1, 1), (3, 1, 1), (4, 1, 1), (2, 2, 1)):
            timetable = least_trouble(yard=Yard(heights))
            for row in short_timetables(4, 8) if sum(heights) < 5 else short_timetables(5, 7):
                self.assertTrue(len(row) >= len(timetable) or not fits(heights, row) or carries(heights, row))
            self.assertIsNotNone(plain_stuck(heights, timetable))


def boxes_at_a_time(timetable):
    counts = [0]
    for word, _ in timetable:
        counts.append(counts[-1] + (1 if word == "in" else -1))
    return counts


def fits(heights, timetable):
    return max(boxes_at_a_time(timetable)) <= sum(heights)


if __name__ == "__main__":
    unittest.main()
