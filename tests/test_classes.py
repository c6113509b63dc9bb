"""Points 11 to 13: what can become what, and the numbers of classes and of the standings in them."""

import random
import unittest
from itertools import permutations

from staysdeep.classes import (
    class_number, class_size, count_classes, deep_part, nth_class, nth_in_class, number_in_class, parting_place,
    rest_yard, same_class,
)
from staysdeep.errors import InvalidSize, InvalidStanding, Refused
from staysdeep.standings import boxes_of, count_standings, deep_boxes
from staysdeep.yards import Yard, deep_count, deep_row, places
from tests.helpers import (
    SMALL_YARDS, TALLEST, WRONG_STANDINGS, Checks, all_standings, any_values, drawn_standing, drawn_yard,
    every_standing, names, plain_class, plain_deep,
)

NO_NUMBERS_OF_BOXES = (-1, -4, 5, 6, 10 ** 30)
GOOD = (("a",), ("b",), ())


def plain_parting(heights, one, other):
    """The first deep place with unlike boxes."""
    for stack, (pile, wanted) in enumerate(zip(plain_deep(heights, one), plain_deep(heights, other))):
        for level, box in enumerate(pile):
            if box != wanted[level]:
                return stack, level
    return None


class TestClasses(Checks):

    def test_deep_parts_of_small_yards(self):
        for heights in SMALL_YARDS:
            yard = Yard(heights)
            for standing in every_standing(heights):
                deep = deep_part(yard, standing)
                self.assert_same(deep, plain_deep(heights, standing))
                self.assertEqual([box for pile in deep for box in pile], [box for _, box in deep_boxes(yard, standing)])

    def test_same_class_is_what_walks_reach(self):
        for heights in SMALL_YARDS[:4] + SMALL_YARDS[6:7]:
            yard, standings = Yard(heights), every_standing(heights)
            for one in standings:
                reached = plain_class(heights, one)
                for other in standings:
                    self.assertIs(same_class(yard, one, other), other in reached)

    def test_same_class_in_greater_yards(self):
        for heights in ((2, 2, 1), (1, 3, 2)):
            yard, standings = Yard(heights), every_standing(heights)
            for one in standings[::61]:
                reached = plain_class(heights, one)
                for other in standings:
                    self.assertIs(same_class(yard, one, other), other in reached)

    def test_other_boxes_are_another_class(self):
        yard = Yard((2, 1, 1))
        self.assertIs(same_class(yard, GOOD, (("a",), ("c",), ())), False)
        self.assertIs(same_class(yard, GOOD, (("a",), (), ())), False)
        self.assertIs(same_class(yard, ((), (), ()), ((), (), ())), True)

    def test_without_free_places_only_equal_ones(self):
        yard, standings = Yard((2, 1, 1)), all_standings((2, 1, 1), tuple("abcd"))
        for one in standings:
            self.assertEqual([other for other in standings if same_class(yard, one, other)], [one])

    def test_parting_places_of_small_yards(self):
        for heights in SMALL_YARDS[:3] + SMALL_YARDS[6:7]:
            yard, standings = Yard(heights), every_standing(heights)
            for one in standings:
                for other in standings:
                    if boxes_of(one) != boxes_of(other):
                        self.assert_told(Refused, "boxes", parting_place, yard, one, other)
                    else:
                        found = parting_place(yard, one, other)
                        self.assert_same(found, plain_parting(heights, one, other))
                        self.assertIs(found is None, same_class(yard, one, other))

    def test_the_first_of_several_parting_places(self):
        yard = Yard((3, 3, 1))
        one, other = (("a", "b", "c"), ("d", "e", "f"), ()), (("a", "d", "c"), ("b", "f", "e"), ())
        self.assert_same(parting_place(yard, one, other), (0, 1))
        self.assert_same(parting_place(yard, one, (("a", "b", "c"), ("e", "d", "f"), ())), (1, 0))
        self.assert_same(parting_place(yard, one, (("a", "b", "f"), ("d", "e", "c"), ())), None)
        self.assert_same(parting_place(yard, one, (("a", "b", "c"), ("d", "f"), ("e",))), (1, 1))

    def test_wrong_standings(self):
        self.assert_standing_first(deep_part)
        for call in (same_class, parting_place):
            self.assert_standing_first(call, GOOD)
            self.assert_standing_first(call, None)
            self.assert_standing_first(call, (("x",), ("x",), ()))
            for value, at in WRONG_STANDINGS:
                self.assert_told(InvalidStanding, at, call, Yard((2, 1, 1)), GOOD, value)
            for value in any_values():
                self.assert_told(InvalidStanding, 0, call, Yard((1, 1, 1)), (("a", "b"), (), ()), value)
                if value != ((), (), ()) and value != (("a",), ("b",), ()):
                    with self.assertRaises(InvalidStanding):
                        call(Yard((1, 1, 1)), GOOD, value)


class TestCounts(Checks):

    def test_counts_of_small_yards(self):
        for heights in SMALL_YARDS[:6] + SMALL_YARDS[6:7]:
            yard = Yard(heights)
            for boxes in range(sum(heights) + 1):
                left, sizes = all_standings(heights, names(boxes)), []
                while left:
                    reached = plain_class(heights, left[0])
                    sizes.append(len(reached))
                    left = [standing for standing in left if standing not in reached]
                self.assertEqual(sizes, [class_size(yard, boxes)] * count_classes(yard, boxes))
                self.assertIs(type(class_size(yard, boxes)), int)

    def test_all_classes_together_have_all_standings(self):
        draw = random.Random(12)
        for _ in range(60):
            yard = drawn_yard(draw)
            for boxes in {0, 1, places(yard), places(yard) - 1, places(yard) - 2, draw.randrange(places(yard) + 1)}:
                self.assertEqual(count_classes(yard, boxes) * class_size(yard, boxes), count_standings(yard, boxes))
                arranged = 1
                for at in range(deep_count(yard, boxes)):
                    arranged *= boxes - at
                self.assertEqual(count_classes(yard, boxes), arranged)

    def test_the_edges(self):
        for heights in SMALL_YARDS + (TALLEST, (1,) * 12, (12, 1, 1)):
            yard, total = Yard(heights), sum(heights)
            self.assert_same((count_classes(yard, 0), class_size(yard, 0)), (1, 1))
            self.assert_same((count_classes(yard, total), class_size(yard, total)), (count_standings(yard, total), 1))

    def test_the_rest_yard(self):
        for heights in SMALL_YARDS + ((12, 1, 1), (3, 7, 4, 12), TALLEST):
            yard, total = Yard(heights), sum(heights)
            for boxes in range(total):
                rest = rest_yard(yard, boxes)
                self.assertIs(type(rest), Yard)
                self.assert_same(rest.heights, tuple([min(height, total - boxes) for height in heights]))
                deep = deep_count(yard, boxes)
                self.assertEqual(places(rest) - (boxes - deep), total - boxes)
                self.assertEqual(deep_row(rest, boxes - deep), (0,) * len(heights))
            self.assertIsNone(rest_yard(yard, total))
        self.assertEqual(rest_yard(Yard((3, 2, 1)), 4), Yard((2, 2, 1)))

    def test_a_class_is_all_standings_of_the_rest_yard(self):
        for heights in SMALL_YARDS[:5]:
            for standing in every_standing(heights):
                deep = plain_deep(heights, standing)
                boxes = len(boxes_of(standing))
                if boxes < sum(heights):
                    loose = [tuple([pile[len(below):] for pile, below in zip(other, deep)])
                             for other in plain_class(heights, standing)]
                    left = boxes_of(tuple([pile[len(below):] for pile, below in zip(standing, deep)]))
                    self.assertEqual(sorted(loose), all_standings(rest_yard(Yard(heights), boxes).heights, left))

    def test_no_such_number_of_boxes(self):
        for call in (count_classes, class_size, rest_yard):
            for boxes in NO_NUMBERS_OF_BOXES:
                self.assert_told(InvalidSize, "boxes", call, Yard((2, 1, 1)), boxes)
            self.assert_told(InvalidSize, "boxes", call, Yard(TALLEST), 145)


class TestNumbersOfClasses(Checks):

    def check_numbers(self, heights, lot):
        """All deep parts of a lot, ascending, there and back."""
        yard = Yard(heights)
        standings = all_standings(heights, lot)
        parts = sorted({plain_deep(heights, standing) for standing in standings})
        self.assertEqual(len(parts), count_classes(yard, len(lot)))
        for number, part in enumerate(parts):
            self.assert_same(nth_class(yard, lot, number), part)
        for standing in standings:
            self.assert_same(class_number(yard, standing), parts.index(plain_deep(heights, standing)))
        for number in (-1, -len(parts), len(parts), len(parts) + 1, 10 ** 200):
            self.assert_told(InvalidSize, "number", nth_class, yard, lot, number)

    def test_small_yards(self):
        for heights in SMALL_YARDS:
            for boxes in range(min(sum(heights), 5) + 1):
                self.check_numbers(heights, ("a", "aa", "b", "x", "xy")[:boxes])
        self.check_numbers((1, 3, 2), ("b", "ba", "c", "ca", "cb", "d"))

    def test_a_lot_as_a_list(self):
        self.assert_same(nth_class(Yard((2, 1, 1)), ["a", "b", "c"], 2), (("c",), (), ()))

    def test_boxes_come_before_number(self):
        for number in (0, -1, 10 ** 9):
            self.assert_told(InvalidSize, "boxes", nth_class, Yard((2, 1, 1)), tuple("abcde"), number)

    def test_great_numbers(self):
        with self.within(20):
            for boxes in (133, 138, 140, 144):
                yard, lot = Yard(TALLEST), names(144)[144 - boxes:]
                last = count_classes(yard, boxes) - 1
                for number in (0, 1, last // 7, min(last, 10 ** 199 + 3), last - 1, last):
                    part = nth_class(yard, lot, number)
                    self.assertEqual([len(pile) for pile in part], [boxes - 132] * 12)
                    taken = [box for pile in part for box in pile]
                    left = [box for box in lot if box not in taken]
                    standing, at = [], 0
                    for pile in part:
                        room = 144 - boxes if at + 144 - boxes <= len(left) else len(left) - at
                        standing.append(pile + tuple(left[at:at + room]))
                        at += room
                    self.assertEqual(class_number(yard, tuple(standing)), number)
                self.assert_told(InvalidSize, "number", nth_class, yard, lot, last + 1)
            self.assertGreater(count_classes(Yard(TALLEST), 144), 10 ** 200)

    def test_wrong_standings(self):
        self.assert_standing_first(class_number)


class TestNumbersInClasses(Checks):

    def test_small_yards(self):
        for heights in SMALL_YARDS[:6] + SMALL_YARDS[6:7]:
            yard = Yard(heights)
            for standing in every_standing(heights):
                members = sorted(plain_class(heights, standing))
                self.assert_same(number_in_class(yard, standing), members.index(standing))
                if standing == members[0] or standing == members[-1]:
                    for number, other in enumerate(members):
                        self.assert_same(nth_in_class(yard, standing, number), other)
                for number in (-1, -len(members), len(members), 10 ** 200):
                    self.assert_told(InvalidSize, "number", nth_in_class, yard, standing, number)

    def test_four_stacks(self):
        yard = Yard((2, 1, 2, 1))
        for lot in list(permutations("abcd"))[::9]:
            standing = (lot[:2], (), lot[2:], ())
            members = sorted(plain_class(yard.heights, standing))
            for number, other in enumerate(members):
                self.assert_same(nth_in_class(yard, standing, number), other)
                self.assert_same(number_in_class(yard, other), number)

    def test_great_numbers(self):
        draw = random.Random(13)
        with self.within(20):
            for heights, boxes in ((TALLEST, 144), (TALLEST, 143), (TALLEST, 132), (TALLEST, 100), ((1,) * 12, 6),
                                   ((12, 1, 1), 9), (TALLEST, 1), ((12, 11, 3, 7), 30)):
                yard = Yard(heights)
                standing = drawn_standing(draw, yard, boxes)
                last = class_size(yard, boxes) - 1
                for number in {0, last // 3, min(last, 10 ** 199 + 1), last}:
                    other = nth_in_class(yard, standing, number)
                    self.assertIs(same_class(yard, standing, other), True)
                    self.assertEqual(number_in_class(yard, other), number)
                self.assertEqual(nth_in_class(yard, standing, number_in_class(yard, standing)), standing)
                self.assert_told(InvalidSize, "number", nth_in_class, yard, standing, last + 1)

    def test_wrong_standings(self):
        self.assert_standing_first(number_in_class)
        self.assert_standing_first(nth_in_class, 0)
        self.assert_standing_first(nth_in_class, -1)


if __name__ == "__main__":
    unittest.main()
