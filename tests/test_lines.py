"""Point 29: lines of boxes, the moves that they need, and plans of the fewest moves."""

import random
import unittest
from itertools import combinations

from staysdeep.errors import InvalidSize, InvalidTimetable
from staysdeep.lines import fewest_plan, longest_line, moves_below
from staysdeep.plans import plan_events, plan_moves, plan_paper
from staysdeep.standings import count_standings
from staysdeep.yards import Yard
from tests.helpers import (
    STUCK, TALLEST, WRONG_TIMETABLES, Checks, all_timetables, busy_timetable, drawn_timetable, names, plain_move, plain_run,
    plain_states, plain_step, plain_stuck,
)
from tests.test_court import some_busy

LINE = tuple([("in", box) for box in "abcd"] + [("out", box) for box in "abc"])


def is_line(timetable, row):
    """Whether a tuple of boxes is a line, from the definition."""
    comes = [timetable.index(("in", box)) for box in row]
    goes = [timetable.index(("out", box)) if ("out", box) in timetable else None for box in row]
    if not any(set(row) <= there for there in plain_states(timetable)):
        return False
    for at in range(len(row) - 1):
        if comes[at] >= comes[at + 1] or goes[at] is None:
            return False
        if goes[at + 1] is not None and goes[at] >= goes[at + 1]:
            return False
    return True


def plain_longest(timetable):
    """How many boxes the longest lines have, by trying all boxes."""
    boxes = [box for word, box in timetable if word == "in"]
    for many in range(len(boxes), 0, -1):
        if any(is_line(timetable, row) for row in combinations(boxes, many)):
            return many
    return 0


def plain_fewest(heights, timetable):
    """The fewest moves of plans that carry a timetable out, by a plain search; None without one."""
    level = {((),) * len(heights): 0}
    stacks = range(len(heights))
    for event in timetable:
        waiting = sorted(level.items(), key=lambda row: row[1])
        while waiting:
            standing, many = waiting.pop(0)
            for way in [(stack, other) for stack in stacks for other in stacks]:
                behind = plain_move(heights, standing, way)
                if behind is not None and level.get(behind, many + 2) > many + 1:
                    level[behind] = many + 1
                    waiting.append((behind, many + 1))
        further = {}
        for standing, many in level.items():
            for stack in stacks:
                behind = plain_step(heights, standing, event + (stack,))
                if behind is not None:
                    further[behind] = min(many, further.get(behind, many))
        level = further
    return min(level.values(), default=None)


class TestLines(Checks):

    def check_line(self, timetable):
        line = longest_line(timetable)
        self.assertIs(type(line), tuple)
        self.assertTrue(is_line(timetable, line))
        return len(line)

    def test_all_short_timetables(self):
        for timetable in all_timetables(5, 8):
            self.assertEqual(self.check_line(timetable), plain_longest(timetable))

    def test_drawn_timetables(self):
        draw = random.Random(70)
        found = set()
        for _ in range(200):
            timetable = busy_timetable(draw, draw.randrange(3, 7), 16, draw.randrange(6))
            found.add(self.check_line(timetable))
            self.assertEqual(self.check_line(timetable), plain_longest(timetable))
        self.assertGreaterEqual(found, {2, 3, 4})

    def test_boxes_that_stay(self):
        # Of those that stay to the end only one can be in a line.
        self.assertEqual(self.check_line(tuple([("in", box) for box in "abc"])), 1)
        self.assert_same(longest_line(LINE), ("a", "b", "c", "d"))
        self.assert_same(longest_line(timetable=LINE[:6]), ("a", "b", longest_line(LINE[:6])[-1]))
        self.assert_same(longest_line(()), ())
        self.assert_same(longest_line((("in", "a"), ("out", "a"))), ("a",))
        # They are not there together.
        self.assertEqual(self.check_line((("in", "a"), ("out", "a"), ("in", "b"), ("out", "b"))), 1)
        timetable = (("in", "a"), ("in", "b"), ("out", "a"), ("in", "c"), ("out", "b"), ("in", "d"), ("out", "c"), ("out", "d"))
        self.assertEqual(self.check_line(timetable), 2)

    def test_two_hundred_events(self):
        lot = names(200)
        comings = tuple([("in", box) for box in lot[:144]])
        with self.within(10):
            self.assertEqual(self.check_line(comings + tuple([("out", box) for box in lot[:56]])), 57)
            self.assertEqual(self.check_line(comings + tuple([("out", box) for box in lot[:144][::-1]][:56])), 1)
            half = tuple([("in", box) for box in lot[:100]]) + tuple([("out", box) for box in lot[:100]])
            self.assertEqual(self.check_line(half), 100)
            self.assert_same(moves_below(Yard(TALLEST), half), 88)
            self.assertEqual(self.check_line(half[:100] + half[100:][::-1]), 1)
            turns = tuple([event for at in range(50) for event in (("out", lot[at]), ("in", lot[100 + at]))])
            self.assertEqual(self.check_line(half[:100] + turns), 51)


class TestMovesBelow(Checks):

    def test_how_many_more_than_stacks(self):
        for heights, many in (((2, 1, 1), 1), ((1, 1, 1, 1), 0), ((2, 2, 2), 1), ((1,) * 12, 0), ((12, 12, 12), 1)):
            self.assert_same(moves_below(Yard(heights), LINE), many)
        self.assert_same(moves_below(yard=Yard((1, 1, 1)), timetable=()), 0)
        self.assert_same(moves_below(Yard((2, 1, 1)), LINE[:5]), 0)

    def test_no_plan_has_fewer_moves(self):
        seen = set()
        for heights, timetable in some_busy(71, 8, ((2, 1, 1), (1, 3, 1), (2, 2, 1)), 12):
            fewest = plain_fewest(heights, timetable)
            if fewest is not None:
                seen.add(moves_below(Yard(heights), timetable))
                self.assertLessEqual(moves_below(Yard(heights), timetable), fewest)
        self.assertGreaterEqual(len(seen), 2)

    def test_wrong_timetables(self):
        self.assert_timetable_first(moves_below)


class TestFewestPlan(Checks):

    def check_plan(self, heights, timetable, fewest):
        plan = fewest_plan(Yard(heights), timetable)
        if fewest is None:
            self.assertIsNone(plan)
            return
        self.assertIs(type(plan), tuple)
        self.assertNotIsInstance(plain_run(heights, plan), int)
        self.assertEqual(plan_events(plan), timetable)
        self.assertEqual(plan_moves(plan), fewest)
        plan_paper(Yard(heights), plan)

    def test_short_timetables(self):
        for timetable in all_timetables(4, 7):
            self.check_plan((2, 1, 1), timetable, plain_fewest((2, 1, 1), timetable))
        for timetable in all_timetables(3, 7):
            self.check_plan((1, 1, 1), timetable, plain_fewest((1, 1, 1), timetable))

    def test_busy_timetables(self):
        told = []
        for heights, timetable in some_busy(72, 10, ((2, 1, 1), (1, 3, 1), (2, 2, 1), (1, 1, 1, 1)), 16):
            told.append(plain_fewest(heights, timetable))
            self.check_plan(heights, timetable, told[-1])
            self.assertIs(told[-1] is None, plain_stuck(heights, timetable) is not None)
        self.assertGreaterEqual(set(told), {None, 0, 1})

    def test_forty_events(self):
        draw = random.Random(73)
        with self.within(30):
            told = set()
            for heights in ((2, 2, 1), (3, 1, 1), (1, 3, 1), (2, 1, 1), (1, 1, 1, 1)) * 4:
                timetable = drawn_timetable(draw, sum(heights), 40)
                told.add(plain_fewest(heights, timetable))
                self.check_plan(heights, timetable, plain_fewest(heights, timetable))
            self.assertIn(None, told)
            self.assertGreater(max(told - {None}), 2)
            # Some place is always free enough: each of these can be carried out.
            timetable = busy_timetable(draw, 3, 40, 1)
            for heights in ((3, 1, 1), (12, 12, 12), (2, 2, 1)):
                self.check_plan(heights, timetable, plain_fewest(heights, timetable))
            timetable = tuple([(word, box) for box in names(20) for word in ("in", "out")])
            self.check_plan(TALLEST, timetable, 0)

    def test_moves_that_pay_later(self):
        # Here the fewest moves up to an early event are not those of the best plan.
        for heights, words, fewest in (
            ((1, 3, 1), "in g in d in j in h in i out d out j in c out i out g in k", 1),
            ((3, 1, 1), "in k in c in h in e in d out c out k in f out f out d in l in i out h", 2),
            ((1, 3, 1), "in h in b in a in i in g out b out h out g in m in l in j out m in f out a", 3),
            ((3, 1, 1), "in d out d in i out i in g in k in a in l in p out k in n out n out g out p out a in c", 1),
        ):
            timetable = tuple(zip(words.split()[::2], words.split()[1::2]))
            self.assertEqual(plain_fewest(heights, timetable), fewest)
            self.check_plan(heights, timetable, fewest)

    def test_no_events(self):
        self.assert_same(fewest_plan(Yard(TALLEST), ()), ())
        self.assert_same(fewest_plan(yard=Yard((1, 1, 1)), timetable=()), ())

    def test_the_examples(self):
        self.assertEqual(plan_moves(fewest_plan(Yard((2, 1, 1)), LINE)), 1)
        self.assert_same(fewest_plan(Yard((2, 1, 1)), STUCK), None)

    def test_too_many_standings(self):
        # 120 are not too many.
        self.assertEqual(count_standings(Yard((2, 2, 1)), 5), 120)
        five = tuple([("in", box) for box in "abcde"])
        self.assertIsNotNone(fewest_plan(Yard((2, 2, 1)), five))
        for heights, many in (((2, 2, 2), 6), ((1,) * 12, 2), ((2,) * 5, 3), ((12, 12, 12), 4), ((2, 2, 2), 5)):
            self.assertGreater(count_standings(Yard(heights), many), 120)
            comings = tuple([("in", box) for box in "abcdef"[:many]])
            self.assert_told(InvalidSize, "yard", fewest_plan, Yard(heights), comings)
            self.assert_told(InvalidSize, "yard", fewest_plan, Yard(heights), comings + (("out", "b"), ("out", "a")))
            if count_standings(Yard(heights), many - 1) <= 120:
                self.check_plan(heights, comings[:-1], 0)

    def test_too_many_standings_where_nobody_can_go_on(self):
        yard = Yard((4, 1, 1))
        timetable = tuple([("in", box) for box in "abcdef"])
        for old, new in zip("abcdef", "ghijkl"):
            timetable += (("out", old), ("in", new))
        self.assertIsNotNone(plain_stuck((4, 1, 1), timetable))
        self.assert_told(InvalidSize, "yard", fewest_plan, yard, timetable)

    def test_wrong_timetables(self):
        self.assert_timetable_first(fewest_plan)
        for value, at in WRONG_TIMETABLES:
            if isinstance(value, tuple):
                self.assert_told(InvalidTimetable, 4, fewest_plan, Yard((2, 1, 1)), LINE[:4] + (("in", "e"),) + value)


if __name__ == "__main__":
    unittest.main()
