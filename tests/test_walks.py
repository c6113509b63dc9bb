"""Point 14: walks between standings, the shortest ones, and the farthest pairs."""

import random
import unittest

from staysdeep.classes import class_size, nth_in_class, number_in_class
from staysdeep.errors import InvalidSize, InvalidStanding
from staysdeep.standings import boxes_of, count_standings, standing_at
from staysdeep.walks import farthest, shortest_walk, walk_between
from staysdeep.yards import Yard, places
from tests.helpers import (
    SMALL_YARDS, TALLEST, WRONG_STANDINGS, Checks, all_standings, any_values, drawn_standing, drawn_yard,
    every_standing, names, plain_class, plain_walk,
)

GOOD = (("a",), ("b",), ())
# Yards whose classes are gone through whole.
YARDS = SMALL_YARDS[:5] + SMALL_YARDS[6:7]


def ring_moves(heights, one, other):
    """The fewest moves with one free place: a move for each box in another stack, one more for each other ring."""
    tops = [(pile[height - 1:], then[height - 1:]) for height, pile, then in zip(heights, one, other)]
    goes = {pile: stack for stack, (pile, _) in enumerate(tops)}
    left = [stack for stack, (pile, then) in enumerate(tops) if pile != then]
    moves = 0
    while left:
        ring = [left[0]]
        while goes[tops[ring[-1]][1]] != ring[0]:
            ring.append(goes[tops[ring[-1]][1]])
        open_ring = any(tops[stack][0] == () for stack in ring)
        moves += len(ring) - 1 if open_ring else len(ring) + 1
        left = [stack for stack in left if stack not in ring]
    return moves


class TestWalkBetween(Checks):

    def check_walk(self, yard, one, other):
        """Replays a walk that there is."""
        walk = walk_between(yard, one, other)
        found = plain_walk(yard.heights, one, walk)
        self.assertIs(type(walk), tuple)
        self.assertNotIsInstance(found, int)
        self.assertEqual(found[0][-1], other)
        self.assertLessEqual(len(walk), 100 * len(boxes_of(one)))

    def test_small_yards(self):
        for heights in YARDS:
            yard = Yard(heights)
            for one in every_standing(heights):
                for other in plain_class(heights, one):
                    self.check_walk(yard, one, other)

    def test_greater_yards(self):
        for heights in SMALL_YARDS[5:] + ((2, 2, 2), (3, 3, 1), (4, 1, 2)):
            yard = Yard(heights)
            for boxes in range(sum(heights)):
                size, step = class_size(yard, boxes), max(1, count_standings(yard, boxes) // 40)
                for number in range(0, count_standings(yard, boxes), step):
                    one = standing_at(yard, names(boxes), number)
                    self.check_walk(yard, one, nth_in_class(yard, one, number * 7 % size))
                    self.check_walk(yard, one, nth_in_class(yard, one, size - 1))

    def test_none_between_classes(self):
        for heights in YARDS[:3]:
            standings = every_standing(heights)
            for one in standings:
                for other in standings:
                    found = walk_between(Yard(heights), one, other)
                    self.assertIs(found is None, other not in plain_class(heights, one))

    def test_forty_boxes(self):
        draw = random.Random(14)
        with self.within(20):
            for heights in ((12, 12, 12, 5), (12, 12, 12, 6), (12, 12, 7, 12), (12, 12, 12, 12), TALLEST, (4,) * 12,
                            (12, 12, 12, 1, 1, 1, 1, 1, 1), (12, 6, 12, 6, 12), (11, 1, 11, 1, 11, 1, 11, 1, 1)):
                yard = Yard(heights)
                for _ in range(4):
                    one = drawn_standing(draw, yard, 40)
                    self.check_walk(yard, one, nth_in_class(yard, one, draw.randrange(class_size(yard, 40))))

    def test_yards_of_all_kinds(self):
        draw = random.Random(15)
        with self.within(30):
            for _ in range(250):
                yard = drawn_yard(draw)
                boxes = max(0, places(yard) - draw.choice((0, 1, 2, 3, 5, 8, 12, 13, 30, 140)))
                one = drawn_standing(draw, yard, min(boxes, 40))
                size = class_size(yard, len(boxes_of(one)))
                self.check_walk(yard, one, nth_in_class(yard, one, draw.randrange(size)))
                self.check_walk(yard, one, nth_in_class(yard, one, 0))

    def test_upside_down(self):
        for free in (2, 3, 11, 12):
            boxes = names(36 - free)
            one, other = [(lot[:12], lot[12:24], lot[24:]) for lot in (boxes, boxes[::-1])]
            loose = nth_in_class(Yard((12, 12, 12)), one, 0)
            last = nth_in_class(Yard((12, 12, 12)), one, class_size(Yard((12, 12, 12)), len(boxes)) - 1)
            self.check_walk(Yard((12, 12, 12)), loose, last)
            if free == 12:
                self.check_walk(Yard((12, 12, 12)), one, other)

    def test_no_boxes(self):
        for heights in SMALL_YARDS + (TALLEST,):
            empty = ((),) * len(heights)
            self.assert_same(walk_between(Yard(heights), empty, empty), ())

    def test_wrong_standings(self):
        for call in (walk_between, shortest_walk):
            self.assert_standing_first(call, GOOD)
            self.assert_standing_first(call, None)
            for value, at in WRONG_STANDINGS:
                self.assert_told(InvalidStanding, at, call, Yard((2, 1, 1)), GOOD, value)
            for value in any_values():
                self.assert_told(InvalidStanding, 1, call, Yard((1, 1, 1)), ((), ("a", "b"), ()), value)

    def test_other_boxes(self):
        for call in (walk_between, shortest_walk):
            for other in ((("a",), ("c",), ()), (("a",), (), ()), (("a", "b"), ("c",), ()), ((), (), ())):
                self.assertIsNone(call(Yard((2, 1, 1)), GOOD, other))


class TestShortestWalk(Checks):

    def check_shortest(self, yard, one, other, fewest):
        walk = shortest_walk(yard, one, other)
        self.assertIs(type(walk), tuple)
        self.assertEqual(len(walk), fewest)
        self.assertEqual(plain_walk(yard.heights, one, walk)[0][-1], other)

    def test_small_yards(self):
        for heights in YARDS:
            yard = Yard(heights)
            for one in every_standing(heights):
                for other, fewest in plain_class(heights, one).items():
                    self.check_shortest(yard, one, other, fewest)

    def test_greater_yards(self):
        for heights, boxes in (((1, 3, 2), 4), ((1, 3, 2), 5), ((2, 1, 2, 1), 3), ((2, 1, 2, 1), 4), ((3, 3, 1), 3),
                               ((2, 2, 3), 5), ((2, 2, 1, 1), 4), ((1,) * 6, 3), ((5, 6, 4), 13)):
            yard, many = Yard(heights), count_standings(Yard(heights), boxes)
            for number in (0, many // 3, many // 2, many - 1):
                one = standing_at(yard, names(boxes), number)
                for other, fewest in list(plain_class(heights, one).items())[::7]:
                    self.check_shortest(yard, one, other, fewest)

    def test_none_between_classes(self):
        for heights in YARDS[:3]:
            standings = every_standing(heights)
            for one in standings:
                for other in standings:
                    if other not in plain_class(heights, one):
                        self.assertIsNone(shortest_walk(Yard(heights), one, other))

    def test_one_free_place_in_any_yard(self):
        draw = random.Random(16)
        with self.within(20):
            for heights in (TALLEST, (1,) * 12, (12, 1, 1), (1, 12, 5, 1, 7), (2,) * 11, (1,) * 8):
                yard, boxes = Yard(heights), sum(heights) - 1
                for _ in range(40):
                    one = drawn_standing(draw, yard, boxes)
                    other = nth_in_class(yard, one, draw.randrange(class_size(yard, boxes)))
                    self.check_shortest(yard, one, other, ring_moves(heights, one, other))
                    self.check_shortest(yard, one, one, 0)

    def test_the_rings_from_the_definition(self):
        for heights in ((1, 1, 1), (2, 1, 1), (1, 1, 1, 1), (2, 1, 2, 1), (1, 1, 1, 1, 1)):
            one = all_standings(heights, names(sum(heights) - 1))[5]
            for other, fewest in plain_class(heights, one).items():
                self.assertEqual(ring_moves(heights, one, other), fewest)

    def test_no_free_place(self):
        full = tuple([names(144)[at:at + 12] for at in range(0, 144, 12)])
        self.assert_same(shortest_walk(Yard(TALLEST), full, full), ())
        self.assertIsNone(shortest_walk(Yard(TALLEST), full, full[::-1]))

    def test_great_classes_are_refused(self):
        for heights, boxes in ((TALLEST, 142), ((2, 2, 2, 2), 6), ((1,) * 9, 3), ((12, 12, 12, 12), 46), (TALLEST, 40)):
            yard = Yard(heights)
            one = standing_at(yard, names(boxes), 0)
            last = nth_in_class(yard, one, class_size(yard, boxes) - 1)
            self.assert_told(InvalidSize, "class", shortest_walk, yard, one, one)
            self.assert_told(InvalidSize, "class", shortest_walk, yard, one, last)

    def test_where_no_walk_is_no_size_is_told(self):
        one = tuple([names(142)[at:at + 12] for at in range(0, 142, 12)])
        self.assertIsNone(shortest_walk(Yard(TALLEST), one, (one[1], one[0]) + one[2:]))
        self.assertIsNone(shortest_walk(Yard(TALLEST), one, ((),) * 12))

    def test_the_bound_of_500(self):
        # No class has 499, 500 or 501 standings.
        below, above = (3, 3, 3, 3, 3, 3, 2), (3,) * 7
        self.assertEqual([class_size(Yard(heights), 3) for heights in (below, above)], [498, 504])
        one, other = [standing_at(Yard(heights), names(3), 0) for heights in (below, above)]
        for last, fewest in list(plain_class(below, one).items())[-9:]:
            self.check_shortest(Yard(below), one, last, fewest)
        self.assert_told(InvalidSize, "class", shortest_walk, Yard(above), other, other)


class TestFarthest(Checks):

    def test_small_yards(self):
        for heights in SMALL_YARDS[:6] + SMALL_YARDS[6:7] + ((3, 1, 1), (3, 3, 1)):
            yard = Yard(heights)
            for boxes in range(sum(heights) + 1):
                if sum(heights) - boxes > 1 and class_size(yard, boxes) > 500:
                    self.assert_told(InvalidSize, "class", farthest, yard, boxes)
                    continue
                standings = all_standings(heights, names(boxes))
                starts = standings if len(standings) <= 120 else sorted(plain_class(heights, standings[0]))[:120]
                most = max([max(plain_class(heights, standing).values()) for standing in starts])
                self.assert_same(farthest(yard, boxes), most)

    def test_one_free_place(self):
        for stacks in range(3, 13):
            for height in (1, 2, 12):
                self.assert_same(farthest(Yard((height,) * stacks), height * stacks - 1), 3 * (stacks - 1) // 2)
        for heights in ((1,) * 5, (1,) * 6):
            one = standing_at(Yard(heights), names(len(heights) - 1), 0)
            self.assertEqual(max(plain_class(heights, one).values()), 3 * (len(heights) - 1) // 2)

    def test_no_free_place_and_no_box(self):
        for heights in SMALL_YARDS + (TALLEST,):
            self.assert_same(farthest(Yard(heights), sum(heights)), 0)
            self.assert_same(farthest(Yard(heights), 0), 0)
            self.assert_same(farthest(Yard(heights), 1), 1)

    def test_the_greatest_classes_in_reasonable_time(self):
        with self.within(20):
            for heights, boxes in (((1,) * 9, 2), (TALLEST, 2), ((1,) * 12, 2), ((12, 12, 1), 23), ((1,) * 6, 4),
                                   ((1,) * 8, 3), ((3, 3, 3, 3, 3, 3, 2), 3)):
                yard = Yard(heights)
                one = drawn_standing(random.Random(17), yard, boxes)
                most = farthest(yard, boxes)
                self.assertGreaterEqual(most, max(plain_class(heights, one).values()))
                self.assertLess(most, 10)
            for heights, boxes in (((3,) * 7, 3), ((1,) * 9, 3), ((2, 2, 2, 1), 5), (TALLEST, 142), (TALLEST, 3)):
                self.assert_told(InvalidSize, "class", farthest, Yard(heights), boxes)

    def test_two_free_places_with_deep_ones(self):
        for heights, boxes in (((12, 1, 1), 12), ((12, 12, 1), 23), ((2, 4, 1), 5)):
            yard = Yard(heights)
            one = drawn_standing(random.Random(18), yard, boxes)
            members = list(plain_class(heights, one))
            self.assertEqual(farthest(yard, boxes), max([max(plain_class(heights, each).values()) for each in members]))
            self.assertEqual({number_in_class(yard, each) for each in members}, set(range(class_size(yard, boxes))))

    def test_no_such_number_of_boxes(self):
        for boxes in (-1, -4, 5, 6, 10 ** 30):
            self.assert_told(InvalidSize, "boxes", farthest, Yard((2, 1, 1)), boxes)
        self.assert_told(InvalidSize, "boxes", farthest, Yard(TALLEST), 145)
        for boxes in (9, 60, 140, 142):
            self.assert_told(InvalidSize, "class", farthest, Yard(TALLEST), boxes)


if __name__ == "__main__":
    unittest.main()
