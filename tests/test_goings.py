"""Points 30 and 31: goings, waits, their steps, how many there are and their numbers."""

import random
import unittest
from itertools import permutations
from math import factorial

from staysdeep.errors import InvalidOrder, InvalidSize, InvalidStanding, NoName, Refused
from staysdeep.goings import (
    count_goings, count_sources, going_steps, goings_at, goings_number, need_goings, ready, stuck_going, wait_of,
)
from staysdeep.standings import count_standings
from staysdeep.yards import Yard, places
from tests.helpers import (
    SMALL_YARDS, TALLEST, WRONG_STANDINGS, Checks, all_standings, any_values, drawn_standing, drawn_yard, every_standing,
    names, plain_run, plain_stuck, strange_papers,
)

YARD, STANDING = Yard((2, 1, 1)), (("a", "b"), ("c",), ("d",))


def plain_wait(heights, standing, box):
    free = sum(heights) - sum(map(len, standing))
    stack = [at for at, pile in enumerate(standing) if box in pile][0]
    return max(0, heights[stack] - 1 - standing[stack].index(box) - free)


def boxes_in(standing):
    return sorted(box for pile in standing for box in pile)


def outs(goings):
    return tuple([("out", box) for box in goings])


def plain_goings(heights, standing, many):
    """All goings of so many boxes that can be done, ascending, by the waits."""
    told = []
    for row in permutations(boxes_in(standing), many):
        if all(plain_wait(heights, standing, box) <= at for at, box in enumerate(row)):
            told.append(row)
    return told


class TestNeedGoings(Checks):

    def test_goings(self):
        for value in ((), ("a",), ("d", "a"), ("a", "b", "c", "d"), ("c", "d", "a", "b")):
            self.assertIsNone(need_goings(YARD, STANDING, value))
        self.assertIsNone(need_goings(yard=YARD, standing=STANDING, value=("b",)))
        self.assertIsNone(need_goings(YARD, ((), (), ()), ()))

    def test_what_are_no_goings(self):
        calls = (need_goings, stuck_going, going_steps, goings_number)
        for value, at in ((None, -1), (["a"], -1), ("a", -1), (True, -1), ({}, -1), (("e",), 0), (("a", "a"), 1),
                          (("a", "b", "a"), 2), (("a", None), 1), (("a", "b", ["c"]), 2), ((("a",),), 0), (("a", True), 1),
                          (("a", "b", "c", "d", "a"), 4), (("a", "b", "c", "d", "e"), 4), (("A",), 0), (("e", "a", "a"), 0),
                          (("b", "b", "e"), 1)):
            for call in calls:
                self.assert_told(InvalidOrder, at, call, YARD, STANDING, value)
        for value in any_values() + strange_papers():
            at = -1 if not isinstance(value, tuple) else 0
            if value not in ((), ("a",)):
                for call in calls:
                    self.assert_told(InvalidOrder, at, call, YARD, STANDING, value)
            if value != "a":
                self.assert_told(InvalidOrder, 1, need_goings, YARD, STANDING, ("b", value))

    def test_wrong_standings_come_first(self):
        for call in (need_goings, stuck_going, going_steps, goings_number):
            self.assert_standing_first(call, None)
            self.assert_standing_first(call, ("z",))
        for call in (ready, wait_of):
            self.assert_standing_first(call, 0)
        self.assert_standing_first(goings_at, -1, -1)


class TestWaits(Checks):

    def test_small_yards(self):
        for heights in SMALL_YARDS[:6]:
            for standing in every_standing(heights):
                waits = {box: plain_wait(heights, standing, box) for box in boxes_in(standing)}
                for box, wait in waits.items():
                    self.assert_same(wait_of(Yard(heights), standing, box), wait)
                for number in range(-1, max(heights) + 1):
                    wanted = tuple([box for box in sorted(waits) if waits[box] <= number])
                    self.assert_same(ready(Yard(heights), standing, number), wanted)

    def test_yards_of_all_kinds(self):
        draw = random.Random(80)
        for _ in range(40):
            yard = drawn_yard(draw)
            standing = drawn_standing(draw, yard, places(yard) - draw.randrange(min(6, places(yard))))
            for box in boxes_in(standing):
                self.assert_same(wait_of(yard, standing, box), plain_wait(yard.heights, standing, box))
            for number in (0, 1, 5, 11, 12, 10 ** 30, -1, -(10 ** 30)):
                wanted = [box for box in boxes_in(standing) if plain_wait(yard.heights, standing, box) <= number]
                self.assert_same(ready(yard, standing, number), tuple(wanted))

    def test_the_example(self):
        self.assert_same(ready(YARD, STANDING, 0), ("b", "c", "d"))
        self.assert_same(ready(yard=YARD, standing=STANDING, number=1), ("a", "b", "c", "d"))
        self.assert_same(wait_of(yard=YARD, standing=STANDING, box="a"), 1)
        self.assert_same(ready(YARD, ((), (), ()), 5), ())

    def test_no_such_box(self):
        for box in ("e", "ab", "zzzzzzzz"):
            self.assert_told(NoName, box, wait_of, YARD, STANDING, box)


class TestStuck(Checks):

    def test_a_plain_search(self):
        draw, told = random.Random(81), []
        for heights in ((1, 1, 1), (2, 1, 1), (1, 3, 1), (2, 2, 1)):
            standings = every_standing(heights)
            for standing in draw.sample(standings, min(60, len(standings))):
                boxes = boxes_in(standing)
                goings = tuple(draw.sample(boxes, draw.randrange(len(boxes) + 1)))
                told.append(stuck_going(Yard(heights), standing, goings))
                self.assert_same(told[-1], plain_stuck(heights, outs(goings), standing))
        self.assertGreaterEqual(set(told), {None, 0, 1})

    def test_exactly_by_the_waits(self):
        for heights in ((2, 1, 1), (1, 3, 1)):
            for standing in every_standing(heights):
                if sum(map(len, standing)) >= 3:
                    for goings in permutations(boxes_in(standing)):
                        late = [plain_wait(heights, standing, box) <= at for at, box in enumerate(goings)]
                        wanted = None if all(late) else late.index(False)
                        self.assert_same(stuck_going(Yard(heights), standing, goings), wanted)

    def test_the_example(self):
        self.assert_same(stuck_going(YARD, STANDING, ("c", "a")), None)
        self.assert_same(stuck_going(yard=YARD, standing=STANDING, goings=("a", "c")), 0)
        self.assert_same(stuck_going(YARD, STANDING, ()), None)


class TestSteps(Checks):

    def check_steps(self, heights, standing, goings):
        steps = going_steps(Yard(heights), standing, goings)
        way = plain_run(heights, steps, standing)
        self.assertIs(type(steps), tuple)
        self.assertNotIsInstance(way, int)
        stuck = stuck_going(Yard(heights), standing, goings)
        self.assertEqual(tuple([step[1] for step in steps if step[0] == "out"]), goings[:stuck])
        begin = 0
        for at, step in enumerate(steps):
            if step[0] == "out":
                pile = [pile for pile in way[begin] if step[1] in pile][0]
                self.assertEqual(at - begin, len(pile) - 1 - pile.index(step[1]))
                begin = at + 1
        self.assertEqual(begin, len(steps))

    def test_small_yards(self):
        for heights in ((1, 1, 1), (2, 1, 1), (1, 2, 2)):
            for standing in every_standing(heights):
                for goings in list(permutations(boxes_in(standing)))[::2]:
                    self.check_steps(heights, standing, goings)

    def test_yards_of_all_kinds(self):
        draw = random.Random(82)
        with self.within(20):
            for _ in range(120):
                yard = drawn_yard(draw)
                standing = drawn_standing(draw, yard, places(yard) - draw.randrange(min(6, places(yard))))
                boxes = boxes_in(standing)
                by_wait = sorted(boxes, key=lambda box: (plain_wait(yard.heights, standing, box), draw.random()))
                self.check_steps(yard.heights, standing, tuple(by_wait))
                self.check_steps(yard.heights, standing, tuple(draw.sample(boxes, len(boxes))))
                self.check_steps(yard.heights, standing, tuple(by_wait[:len(by_wait) // 2]))

    def test_the_tallest_yard(self):
        lot = names(144)
        standing = tuple([lot[at:at + 12] for at in range(0, 144, 12)])
        with self.within(10):
            waits = sorted(lot, key=lambda box: lot.index(box) % 12, reverse=True)
            self.check_steps(TALLEST, standing, tuple(waits))
            self.assertIsNone(stuck_going(Yard(TALLEST), standing, tuple(waits)))
        self.assert_same(going_steps(Yard(TALLEST), standing, (lot[0],)), ())
        self.assert_same(going_steps(yard=Yard(TALLEST), standing=standing, goings=()), ())


class TestCounts(Checks):

    def test_all_goings(self):
        for heights in ((1, 1, 1), (2, 1, 1), (1, 3, 1), (2, 2, 1), (2, 1, 1, 1)):
            yard = Yard(heights)
            for boxes in range(sum(heights) + 1):
                standings = all_standings(heights, tuple("abcdefgh"[:boxes]))
                for standing in standings[::max(1, len(standings) // 4)]:
                    for many in range(boxes + 1):
                        rows = plain_goings(heights, standing, many)
                        self.assert_same(count_goings(yard, boxes, many), len(rows))
                        for number, row in enumerate(rows):
                            self.assert_same(goings_at(yard, standing, many, number), row)
                            self.assert_same(goings_number(yard, standing, row), number)
                        for number in (-1, len(rows), len(rows) + 1, 10 ** 30, -len(rows)):
                            self.assert_told(InvalidSize, "number", goings_at, yard, standing, many, number)

    def test_sources(self):
        for heights in ((1, 1, 1), (2, 1, 1), (1, 3, 1)):
            for boxes in range(sum(heights) + 1):
                lot = tuple("abcdefgh"[:boxes])
                for goings in [row[:many] for many in range(boxes + 1) for row in (lot, lot[::-1])]:
                    good = [standing for standing in all_standings(heights, lot)
                            if plain_stuck(heights, outs(goings), standing) is None]
                    self.assert_same(count_sources(Yard(heights), boxes, len(goings)), len(good))

    def test_wrong_sizes(self):
        for call in (count_goings, count_sources):
            for boxes in (-1, 5, 10 ** 30, -5):
                for many in (-1, 0, 7):
                    self.assert_told(InvalidSize, "boxes", call, YARD, boxes, many)
            for boxes, many in ((0, 1), (0, -1), (3, 4), (4, 5), (4, -1), (2, 10 ** 30)):
                self.assert_told(InvalidSize, "many", call, YARD, boxes, many)
        for many in (-1, 5, 10 ** 30):
            for number in (-1, 0):
                self.assert_told(InvalidSize, "many", goings_at, YARD, STANDING, many, number)
        self.assert_told(InvalidSize, "many", goings_at, YARD, (("a",), (), ()), 2, 0)
        self.assert_told(InvalidSize, "number", goings_at, YARD, STANDING, 0, 1)

    def test_goings_that_cannot_be_done(self):
        self.assert_told(Refused, "goings", goings_number, YARD, STANDING, ("a",))
        self.assert_told(Refused, "goings", goings_number, YARD, STANDING, ("a", "b", "c", "d"))
        self.assert_told(InvalidOrder, 1, goings_number, YARD, STANDING, ("a", "a"))
        for value, at in WRONG_STANDINGS:
            self.assert_told(InvalidStanding, at, goings_number, YARD, value, ("a",))

    def test_the_example(self):
        self.assert_same(count_goings(YARD, 4, 4), 18)
        self.assert_same(count_goings(yard=YARD, boxes=4, many=0), 1)
        self.assert_same(count_goings(YARD, 0, 0), 1)
        self.assert_same(goings_at(YARD, STANDING, 4, 0), ("b", "a", "c", "d"))
        self.assert_same(goings_at(yard=YARD, standing=STANDING, many=0, number=0), ())
        self.assert_same(goings_number(yard=YARD, standing=STANDING, goings=()), 0)
        self.assert_same(count_sources(yard=YARD, boxes=4, many=4), 18)

    def test_great_numbers(self):
        yard, lot = Yard(TALLEST), names(144)
        standing = tuple([lot[at:at + 12] for at in range(0, 144, 12)])
        with self.within(20):
            total = count_goings(yard, 144, 100)
            for number in (0, 1, total // 3, total - 1):
                self.assert_same(goings_number(yard, standing, goings_at(yard, standing, 100, number)), number)
            self.assert_told(InvalidSize, "number", goings_at, yard, standing, 100, total)
            self.assertEqual(count_sources(yard, 144, 144) * factorial(144), count_standings(yard, 144) *
                             count_goings(yard, 144, 144))
            # So many places free that each can go at any time.
            self.assertEqual(count_goings(yard, 100, 100), factorial(100))
            self.assertEqual(count_goings(Yard((12, 12, 12)), 3, 2), 6)


if __name__ == "__main__":
    unittest.main()
