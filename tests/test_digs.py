"""Points 15 and 16: digging a box out, shifting it, and bringing boxes to the tops of wished stacks."""

import random
import unittest
from itertools import combinations, permutations

from staysdeep.digs import can_dig, can_shift, dig_walk, lying_places, shift_walk, wish_walk, wishes_walk
from staysdeep.errors import InvalidSize, NoName, Refused
from staysdeep.standings import boxes_above, boxes_of, free_places, place_of, tops
from staysdeep.yards import Yard, cover_of, places
from tests.helpers import (
    SMALL_YARDS, TALLEST, Checks, drawn_standing, drawn_yard, every_standing, names, plain_class, plain_walk,
)

# Yards whose standings are gone through whole.
YARDS = SMALL_YARDS[:5] + SMALL_YARDS[6:7]
WITH_BOX = (can_dig, can_shift, dig_walk, shift_walk, lying_places)
START = (("a", "b"), ("c",), ())


def fewest_to(heights, standing, wanted):
    """The fewest moves to a standing that is wanted, or None."""
    found = [fewest for other, fewest in plain_class(heights, standing).items() if wanted(other)]
    return min(found, default=None)


def some_standings(draw, many):
    """Standings of yards of all kinds, with few or many free places."""
    told = []
    for _ in range(many):
        yard = drawn_yard(draw)
        boxes = max(1, places(yard) - draw.choice((0, 1, 2, 3, 5, 8, 11, 12, 13, 40)))
        told.append((yard, drawn_standing(draw, yard, boxes)))
    return told


class TestOneBox(Checks):

    def check_fewest(self, heights, standing, walk, fewest):
        """Replays the walk, if there is to be one; returns the standing behind it and the boxes moved."""
        if fewest is None:
            self.assertIsNone(walk)
            return None
        self.assertIs(type(walk), tuple)
        self.assertEqual(len(walk), fewest)
        way, boxes = plain_walk(heights, standing, walk)
        return way[-1], boxes

    def test_digging_in_small_yards(self):
        for heights in YARDS:
            yard = Yard(heights)
            for standing in every_standing(heights):
                for box in boxes_of(standing):
                    stack = place_of(standing, box)[0]
                    anywhere = fewest_to(heights, standing, lambda other: box in tops(other))
                    fewest = fewest_to(heights, standing, lambda other: tops(other)[stack] == box)
                    self.assertIs(can_dig(yard, standing, box), anywhere is not None)
                    found = self.check_fewest(heights, standing, dig_walk(yard, standing, box), fewest)
                    if found:
                        self.assertEqual(tops(found[0])[stack], box)

    def test_shifting_in_small_yards(self):
        for heights in YARDS:
            yard = Yard(heights)
            for standing in every_standing(heights):
                for box in boxes_of(standing):
                    stack = place_of(standing, box)[0]
                    fewest = fewest_to(heights, standing, lambda other: box not in other[stack])
                    self.assertIs(can_shift(yard, standing, box), fewest is not None)
                    found = self.check_fewest(heights, standing, shift_walk(yard, standing, box), fewest)
                    if found:
                        self.assertEqual(found[1][-1], box)
                        self.assertEqual(found[1].count(box), 1)

    def test_lying_places_in_small_yards(self):
        for heights in YARDS:
            yard = Yard(heights)
            for standing in every_standing(heights):
                for box in boxes_of(standing):
                    lying = {place_of(other, box) for other in plain_class(heights, standing)}
                    self.assert_same(lying_places(yard, standing, box), tuple(sorted(lying)))

    def test_wishes_for_one_box_in_small_yards(self):
        for heights in YARDS:
            yard = Yard(heights)
            for standing in every_standing(heights):
                for box in boxes_of(standing):
                    for stack in range(len(heights)):
                        fewest = fewest_to(heights, standing, lambda other: tops(other)[stack] == box)
                        walk = wish_walk(yard, standing, box, stack)
                        found = self.check_fewest(heights, standing, walk, fewest)
                        if found:
                            self.assertEqual(tops(found[0])[stack], box)

    def test_yards_of_all_kinds(self):
        for yard, standing in some_standings(random.Random(21), 150):
            free = free_places(yard, standing)
            for box in boxes_of(standing)[::5]:
                stack, level = place_of(standing, box)
                spare, above = free - cover_of(yard, stack, level), len(boxes_above(standing, box))
                self.assertIs(can_dig(yard, standing, box), spare >= 0)
                self.assertIs(can_shift(yard, standing, box), spare > 0)
                dug = self.check_fewest(
                    yard.heights, standing, dig_walk(yard, standing, box), above if spare >= 0 else None)
                self.assertTrue(dug is None or tops(dug[0])[stack] == box)
                shifted = self.check_fewest(
                    yard.heights, standing, shift_walk(yard, standing, box), above + 1 if spare > 0 else None)
                self.assertTrue(shifted is None or shifted[1][-1] == box)
                for other, height in enumerate(yard.heights):
                    full = len(standing[other]) == height
                    fewest = above if other == stack and spare >= 0 else None
                    if other != stack and spare > 0:
                        fewest = above + 2 if full else above + 1
                    wished = self.check_fewest(yard.heights, standing, wish_walk(yard, standing, box, other), fewest)
                    self.assertTrue(wished is None or tops(wished[0])[other] == box)

    def test_lying_places_in_yards_of_all_kinds(self):
        for yard, standing in some_standings(random.Random(22), 80):
            free, boxes = free_places(yard, standing), boxes_of(standing)
            lowest = [max(0, height - free) for height in yard.heights]
            loose = len(boxes) - sum(lowest)
            for box in boxes[::7]:
                place = place_of(standing, box)
                wanted = [(stack, level) for stack, height in enumerate(yard.heights)
                          for level in range(lowest[stack], height) if level - lowest[stack] < loose]
                if place[1] < lowest[place[0]]:
                    wanted = [place]
                self.assert_same(lying_places(yard, standing, box), tuple(wanted))

    def test_a_deep_box_that_can_be_dug_but_not_shifted(self):
        yard = Yard((2, 1, 1))
        self.assert_same((can_dig(yard, START, "a"), can_shift(yard, START, "a")), (True, False))
        self.assert_same((dig_walk(yard, START, "a"), shift_walk(yard, START, "a")), (((0, 2),), None))
        self.assert_same(lying_places(yard, START, "a"), ((0, 0),))
        self.assert_same(lying_places(yard, START, "c"), ((0, 1), (1, 0), (2, 0)))
        self.assert_same((wish_walk(yard, START, "a", 0), wish_walk(yard, START, "a", 1)), (((0, 2),), None))

    def test_a_full_yard(self):
        yard, full = Yard((2, 1, 1)), (("a", "b"), ("c",), ("d",))
        self.assert_same([can_dig(yard, full, box) for box in "abcd"], [False, True, True, True])
        self.assert_same([dig_walk(yard, full, box) for box in "abcd"], [None, (), (), ()])
        self.assert_same([can_shift(yard, full, box) for box in "abcd"], [False] * 4)
        self.assert_same([shift_walk(yard, full, box) for box in "abcd"], [None] * 4)
        self.assert_same([lying_places(yard, full, box) for box in "abcd"],
                         [((0, 0),), ((0, 1),), ((1, 0),), ((2, 0),)])
        self.assert_same([wish_walk(yard, full, "b", stack) for stack in range(3)], [(), None, None])

    def test_the_last_free_places_are_enough(self):
        low, above = names(12)[:1], names(12)[1:]
        yard, standing = Yard((12, 12, 1)), (low + above, ("x",), ("y",))
        self.assertEqual(len(dig_walk(yard, standing, low[0])), 11)
        self.assertIsNone(shift_walk(yard, standing, low[0]))
        yard, standing = Yard((12, 12, 1, 1)), (low + above, ("x",), ("y",), ())
        self.assertEqual(len(shift_walk(yard, standing, low[0])), 12)
        self.assertEqual(len(wish_walk(yard, standing, low[0], 2)), 13)
        self.assertEqual(len(wish_walk(yard, standing, low[0], 3)), 12)

    def test_wrong_standings_names_and_stacks(self):
        for call in WITH_BOX:
            self.assert_standing_first(call, "a")
            self.assert_standing_first(call, "zz")
            for box in ("d", "bb", "abcdefgh"):
                self.assert_told(NoName, box, call, Yard((2, 1, 1)), START, box)
            self.assert_told(NoName, "a", call, Yard((2, 1, 1)), ((), (), ()), "a")
        self.assert_standing_first(wish_walk, "zz", 3)
        for stack in (-1, -3, 3, 4, 10 ** 30):
            self.assert_told(NoName, "d", wish_walk, Yard((2, 1, 1)), START, "d", stack)
            for box in "abc":
                self.assert_told(InvalidSize, "stack", wish_walk, Yard((2, 1, 1)), START, box, stack)


class TestWishes(Checks):

    def check_wishes(self, yard, standing, wishes, can):
        walk = wishes_walk(yard, standing, wishes)
        if not can:
            self.assertIsNone(walk)
            return
        self.assertIs(type(walk), tuple)
        self.assertLessEqual(len(walk), 100 * len(boxes_of(standing)))
        behind = plain_walk(yard.heights, standing, walk)[0][-1]
        for box, stack in wishes:
            self.assertEqual(tops(behind)[stack], box)

    def test_all_wishes_in_small_yards(self):
        for heights in YARDS[:5]:
            yard, stacks = Yard(heights), range(len(heights))
            for standing in every_standing(heights)[::2]:
                reached = {tops(other) for other in plain_class(heights, standing)}
                for many in range(len(heights) + 1):
                    for boxes in combinations(boxes_of(standing), many):
                        for told in permutations(stacks, many):
                            wishes = tuple(zip(boxes, told))
                            can = any(all(top[stack] == box for box, stack in wishes) for top in reached)
                            self.check_wishes(yard, standing, wishes, can)

    def test_wishes_in_four_stacks(self):
        yard = Yard((2, 1, 2, 1))
        for standing in ((("a", "b"), ("c",), ("d", "e"), ()), (("e",), (), ("d", "a"), ("c",)),
                         ((), ("b",), ("a",), ())):
            reached = {tops(other) for other in plain_class(yard.heights, standing)}
            for many in range(5):
                for boxes in permutations(boxes_of(standing), many):
                    for told in combinations(range(4), many):
                        wishes = tuple(zip(boxes, told))
                        can = any(all(top[stack] == box for box, stack in wishes) for top in reached)
                        self.check_wishes(yard, standing, wishes, can)

    def test_one_wish_is_a_wish_walk(self):
        for yard, standing in some_standings(random.Random(23), 60):
            for box in boxes_of(standing)[::11]:
                for stack in range(len(yard.heights)):
                    can = wish_walk(yard, standing, box, stack) is not None
                    self.check_wishes(yard, standing, ((box, stack),), can)

    def test_forty_boxes(self):
        draw = random.Random(24)
        with self.within(20):
            for heights in (TALLEST, (4,) * 11, (12, 12, 12, 6), (4, 4, 4, 4, 4, 4, 4, 4, 4, 6), (12, 5, 1, 12, 12, 2)):
                yard = Yard(heights)
                standing = drawn_standing(draw, yard, 40)
                free = free_places(yard, standing)
                loose = [box for box in boxes_of(standing)
                         if cover_of(yard, *place_of(standing, box)) < free]
                for many in (1, 2, len(heights)):
                    boxes = draw.sample(loose, min(many, len(loose)))
                    wishes = tuple(zip(boxes, draw.sample(range(len(heights)), many)))
                    self.check_wishes(yard, standing, wishes, True)

    def test_a_deep_box_with_others(self):
        yard = Yard((3, 3, 2))
        standing = (("a", "b", "c"), ("d", "e", "f"), ())
        for box, stack in (("a", 0), ("d", 1)):
            for loose in permutations("bcef", 2):
                others = [other for other in range(3) if other != stack]
                self.check_wishes(yard, standing, ((box, stack), (loose[0], others[0]), (loose[1], others[1])), True)
                self.check_wishes(yard, standing, ((loose[0], others[0]), (loose[1], others[1]), (box, stack)), True)
        self.check_wishes(yard, standing, (("a", 0), ("d", 1)), False)
        self.check_wishes(yard, standing, (("a", 1),), False)
        self.check_wishes(yard, standing, (("b", 0), ("a", 2)), False)
        full = (("a", "b", "c"), ("d", "e", "f"), ("g", "h"))
        self.check_wishes(yard, full, (("c", 0), ("h", 2), ("f", 1)), True)
        self.check_wishes(yard, full, (("c", 0), ("h", 1)), False)
        self.check_wishes(yard, full, (("b", 0),), False)
        self.check_wishes(Yard((4, 3, 2)), standing[:1] + (("d", "e", "f"), ("g",)), (("a", 0),), False)

    def test_no_wishes_and_wishes_that_are_met(self):
        for standing in every_standing((2, 1, 1)):
            self.check_wishes(Yard((2, 1, 1)), standing, (), True)
            met = tuple([(box, stack) for stack, box in enumerate(tops(standing)) if box])
            self.check_wishes(Yard((2, 1, 1)), standing, met, True)

    def test_the_first_wrong_pair_is_told(self):
        yard = Yard((2, 1, 1))
        for wishes, error, kept in (
            ((("d", 0),), NoName, "d"), ((("d", 9),), NoName, "d"), ((("b", 3),), InvalidSize, "stack"),
            ((("b", -1),), InvalidSize, "stack"), ((("b", 0), ("c", 0)), Refused, "wishes"),
            ((("b", 0), ("b", 1)), Refused, "wishes"), ((("b", 0), ("b", 0)), Refused, "wishes"),
            ((("b", 0), ("b", 3)), InvalidSize, "stack"), ((("b", 0), ("x", 0)), NoName, "x"),
            ((("b", 3), ("x", 0)), InvalidSize, "stack"), ((("b", 0), ("c", 0), ("x", 0)), Refused, "wishes"),
            ((("a", 1), ("a", 1)), Refused, "wishes"), ((("b", 0), ("c", 1), ("a", 7)), InvalidSize, "stack"),
            ((("a", 1), ("b", 2), ("c", 1)), Refused, "wishes"),
        ):
            self.assert_told(error, kept, wishes_walk, yard, START, wishes)

    def test_wrong_standings_come_first(self):
        self.assert_standing_first(wishes_walk, ())
        self.assert_standing_first(wishes_walk, (("zz", 9),))


if __name__ == "__main__":
    unittest.main()
