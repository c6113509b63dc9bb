"""Point 26: plans that carry out a timetable and keep a paper."""

import random
import unittest

from staysdeep.court import Dealt, Short, check_court, court, dealings_count
from staysdeep.errors import Refused
from staysdeep.mover import moves_above, plan_for
from staysdeep.plans import plan_events, plan_moves, plan_paper
from staysdeep.yards import Yard, places
from tests.helpers import (
    STUCK, TALLEST, Checks, all_tables, all_timetables, any_values, busy_timetable, names, plain_places, plain_run,
    plain_states, strange_papers,
)
from tests.test_court import some_busy


def plain_most(heights, free, event):
    """How many moves there may be before an event, with so many free places."""
    if event[0] == "out":
        return min(free, max(heights) - 1)
    return (3 * free + 2) * len(plain_places(heights, free - 1))


def spread_table(draw, yard, timetable, paper):
    """Some other right table, made from a right one by changing single boxes."""
    boxes = sorted({box for _, box in timetable})
    table = paper.table
    for _ in range(60):
        if table:
            at = draw.randrange(len(table))
            changed = table[:at] + (table[at][:2] + (draw.choice(boxes),),) + table[at + 1:]
            table = changed if check_court(yard, timetable, Dealt(changed)) else table
    return table


class TestPlanFor(Checks):

    def check_plan(self, heights, timetable, table):
        """Replays a plan for a right table, and counts the moves before each event."""
        yard, plan = Yard(heights), plan_for(Yard(heights), timetable, Dealt(table))
        self.assertIs(type(plan), tuple)
        way = plain_run(heights, plan)
        self.assertNotIsInstance(way, int)
        self.assertEqual(plan_events(plan), timetable)
        self.assert_same(plan_paper(yard, plan).table, table)
        free, moves, lying = sum(heights), 0, 0
        for at, step in enumerate(plan):
            if step[0] == "move":
                moves += 1
                continue
            standing = way[at - moves]
            lying = [len(pile) - 1 - pile.index(step[1]) for pile in standing if step[1] in pile]
            if step[0] == "out":
                self.assertEqual(moves, lying[0])
                self.assertLessEqual(moves, free)
            self.assertLessEqual(moves, plain_most(heights, free, step))
            free, moves = free + (1 if step[0] == "out" else -1), 0
        self.assertEqual(moves, 0)
        self.assertLessEqual(plan_moves(plan), moves_above(yard, timetable))
        return plan

    def test_each_right_table_is_that_of_some_plan(self):
        many = 0
        for heights, timetable in some_busy(50, 6, events=9):
            tables = all_tables(heights, timetable) if dealings_count(Yard(heights), timetable) < 3000 else []
            for table in tables[::max(1, len(tables) // 60)]:
                self.check_plan(heights, timetable, table)
                many += 1
        self.assertGreater(many, 1000)

    def test_all_short_timetables(self):
        for heights, length in (((1, 1, 1), 7), ((2, 1, 1), 8), ((1, 2, 2), 7)):
            for timetable in all_timetables(sum(heights), length):
                self.check_plan(heights, timetable, court(Yard(heights), timetable).table)

    def test_papers_of_the_court(self):
        for heights, timetable in some_busy(51, 20, ((2, 1, 1), (3, 2, 1), (2, 2, 2), (4, 4, 1), (5, 3, 3), (3, 1, 2, 1)), 40):
            paper = court(Yard(heights), timetable)
            if isinstance(paper, Dealt):
                self.check_plan(heights, timetable, paper.table)

    def test_yards_of_all_kinds(self):
        draw, done = random.Random(52), 0
        for _ in range(120):
            heights = tuple([draw.choice((1, 2, 3, 4, 6, 12)) for _ in range(draw.choice((3, 3, 4, 5, 12)))])
            low = max(0, sum(heights) - draw.choice((1, 2, 3, 5, 12)))
            timetable = busy_timetable(draw, sum(heights), min(200, sum(heights) + draw.choice((0, 10, 40))), low)
            paper = court(Yard(heights), timetable)
            if isinstance(paper, Dealt):
                done += 1
                self.check_plan(heights, timetable, paper.table)
                self.check_plan(heights, timetable, spread_table(draw, Yard(heights), timetable, paper))
        self.assertGreater(done, 60)

    def test_no_moves_without_need(self):
        self.assert_same(plan_for(Yard((1, 1, 1)), (), Dealt(())), ())
        plan = plan_for(yard=Yard((3, 3, 3)), timetable=(("in", "a"), ("in", "b"), ("out", "b")), dealt=Dealt(()))
        self.assertEqual(plan_moves(plan), len(plan) - 3)
        yard = Yard((12, 12, 12))
        timetable = tuple([("in", box) for box in names(24)])
        self.assertEqual(plan_moves(plan_for(yard, timetable, court(yard, timetable))), 0)
        self.assertEqual(moves_above(yard, timetable), 0)

    def test_two_hundred_events_in_the_tallest_yard(self):
        lot = names(200)
        comings = tuple([("in", box) for box in lot[:144]])
        turns = tuple([event for at in range(28) for event in (("out", lot[143 + at]), ("in", lot[144 + at]))])
        away = tuple([("out", box) for box in lot[:56]])
        half = tuple([("in", box) for box in lot[:132]]) + tuple([
            event for at in range(34) for event in (("in", lot[132 + at]), ("out", lot[at]))])
        with self.within(20):
            for timetable in (comings + turns, comings + away, half, comings):
                self.check_plan(TALLEST, timetable, court(Yard(TALLEST), timetable).table)

    def test_papers_that_are_refused(self):
        yard = Yard((2, 1, 1))
        table = court(yard, STUCK[:8]).table
        for value in any_values() + strange_papers():
            self.assert_told(Refused, "paper", plan_for, yard, STUCK[:8], value)
            self.assert_told(Refused, "paper", plan_for, yard, STUCK, value)
            if value != Dealt(()):
                self.assert_told(Refused, "paper", plan_for, yard, (), value)
        for value in (table, Dealt(list(table)), Dealt(table[1:]), Dealt(table[::-1]), court(yard, STUCK), Short(0, (4, 4), ())):
            self.assert_told(Refused, "paper", plan_for, yard, STUCK[:8], value)
        self.assert_told(Refused, "paper", plan_for, yard, STUCK[:6], Dealt(table))
        self.assert_told(Refused, "paper", plan_for, Yard((1, 2, 1)), STUCK[:8], Dealt(table))
        # A right `Short` is no paper for a plan.
        self.assertTrue(check_court(yard, STUCK, court(yard, STUCK)))
        self.assert_told(Refused, "paper", plan_for, yard, STUCK, court(yard, STUCK))

    def test_wrong_timetables_come_first(self):
        self.assert_timetable_first(plan_for, None)
        self.assert_timetable_first(plan_for, Dealt(()))
        self.assert_timetable_first(moves_above)


class TestMovesAbove(Checks):

    def test_sums(self):
        draw = random.Random(53)
        for heights in ((1, 1, 1), (2, 1, 1), (3, 2, 1), (12, 1, 5), (4, 4, 4, 4), (12, 12, 12)):
            for _ in range(15):
                timetable = busy_timetable(draw, sum(heights), 60, draw.randrange(sum(heights)))
                counts = [sum(heights) - len(there) for there in plain_states(timetable)]
                wanted = sum(plain_most(heights, free, event) for free, event in zip(counts, timetable))
                self.assert_same(moves_above(Yard(heights), timetable), wanted)

    def test_single_events(self):
        # Of the comings only those before which 1 or 2 places are free make places deep.
        yard = Yard((2, 1, 1))
        comings = (("in", "a"), ("in", "b"), ("in", "c"), ("in", "d"))
        self.assert_same([moves_above(yard, comings[:many]) for many in range(5)], [0, 0, 0, 8, 8 + 3 * 5])
        self.assert_same(moves_above(yard, comings + (("out", "a"),)), 23)
        self.assert_same(moves_above(yard, comings + (("out", "a"), ("out", "b"))), 24)
        self.assert_same(moves_above(yard=Yard((3, 1, 1)), timetable=comings + (("out", "a"), ("out", "b"))), 11 + 8 + 1 + 2)
        self.assert_same(moves_above(Yard((12, 1, 1)), (("in", "a"), ("out", "a"))), 11)
        self.assert_same(places(yard), 4)


if __name__ == "__main__":
    unittest.main()
