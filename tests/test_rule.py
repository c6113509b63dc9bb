"""Points 27 and 28: who leaves first, the steps of the rule for one event, and how far it goes."""

import random
import unittest

from staysdeep.court import Dealt, court, stuck_event
from staysdeep.errors import InvalidOrder, InvalidSize, NoName, Refused
from staysdeep.plans import plan_events, plan_paper
from staysdeep.rule import leaving_order, rule_plan, rule_steps
from staysdeep.yards import Yard, places
from tests.helpers import (
    STUCK, TALLEST, Checks, all_timetables, any_values, busy_timetable, drawn_standing, every_standing, names,
    plain_deep, plain_places, plain_run, plain_states, plain_stuck, some_timetables, strange_papers,
)
from tests.test_court import some_busy

STANDING = (("a", "b"), ("c",), ())


def plain_order(timetable, state):
    """Who leaves first: by the goings behind the state, then the greater names."""
    there = plain_states(timetable)[state]
    goers = [box for word, box in timetable[state:] if word == "out" and box in there]
    return tuple(goers + sorted(there - set(goers), reverse=True))


def given_places(heights, standing, box, order):
    """For each place that becomes deep by a coming the box that the rule gives it."""
    free = sum(heights) - sum(map(len, standing))
    deep = [name for pile in plain_deep(heights, standing) for name in pile]
    loose = [name for name in order if name not in deep]
    given = {}
    for place in plain_places(heights, free - 1):
        given[place] = loose.pop()
    return given


class TestLeavingOrder(Checks):

    def test_all_states(self):
        for yard, timetable in some_timetables(60, 8, 80):
            for state in range(len(timetable) + 1):
                self.assert_same(leaving_order(timetable, state), plain_order(timetable, state))

    def test_those_that_stay(self):
        timetable = (("in", "b"), ("in", "a"), ("in", "aa"), ("in", "c"), ("out", "c"), ("out", "a"))
        self.assert_same(leaving_order(timetable, 4), ("c", "a", "b", "aa"))
        self.assert_same(leaving_order(timetable, 6), ("b", "aa"))
        self.assert_same(leaving_order(timetable=timetable, state=5), ("a", "b", "aa"))
        self.assert_same(leaving_order(timetable, 0), ())
        self.assert_same(leaving_order((), 0), ())

    def test_no_state(self):
        for state in (-1, 3, 10 ** 30, -3):
            self.assert_told(InvalidSize, "state", leaving_order, (("in", "a"), ("out", "a")), state)
        self.assert_told(InvalidSize, "state", leaving_order, (), 1)


class TestRuleSteps(Checks):

    def check_steps(self, heights, standing, event, order):
        """Replays the steps for an event that is not refused."""
        steps = rule_steps(Yard(heights), standing, event, order)
        way = plain_run(heights, steps, standing)
        self.assertIs(type(steps), tuple)
        self.assertNotIsInstance(way, int)
        self.assertEqual([step[0] for step in steps], ["move"] * (len(steps) - 1) + [event[0]])
        self.assertEqual(steps[-1][1], event[1])
        free, moves = sum(heights) - sum(map(len, standing)), len(steps) - 1
        if event[0] == "out":
            above = [len(pile) - 1 - pile.index(event[1]) for pile in standing if event[1] in pile][0]
            self.assertEqual(moves, above)
            return
        given = given_places(heights, standing, event[1], order)
        for (stack, level), box in given.items():
            self.assertEqual(way[-1][stack][level], box)
        self.assertLessEqual(moves, (3 * free + 2) * len(given))
        if free > 1:
            self.assertEqual([pile[:len(deep)] for pile, deep in zip(way[-1], plain_deep(heights, standing))],
                             list(plain_deep(heights, standing)))

    def test_small_yards(self):
        draw = random.Random(61)
        for heights in ((1, 1, 1), (2, 1, 1), (1, 3, 1), (2, 2, 1)):
            for standing in every_standing(heights):
                boxes = sorted(box for pile in standing for box in pile)
                deep = [box for pile in plain_deep(heights, standing) for box in pile]
                free = sum(heights) - len(boxes)
                for box in boxes:
                    order = tuple(draw.sample(boxes, len(boxes)))
                    stack = [at for at, pile in enumerate(standing) if box in pile][0]
                    cover = heights[stack] - 1 - standing[stack].index(box)
                    if cover > free:
                        self.assert_told(Refused, "deep", rule_steps, Yard(heights), standing, ("out", box), order)
                        self.assertIn(box, deep)
                    else:
                        self.check_steps(heights, standing, ("out", box), order)
                if free:
                    order = tuple(draw.sample(boxes + ["zz"], len(boxes) + 1))
                    self.check_steps(heights, standing, ("in", "zz"), order)

    def test_yards_of_all_kinds(self):
        draw = random.Random(62)
        for _ in range(300):
            heights = tuple([draw.choice((1, 2, 3, 5, 12)) for _ in range(draw.choice((3, 3, 4, 12)))])
            yard = Yard(heights)
            boxes = max(0, places(yard) - draw.choice((1, 1, 2, 3, 5, 12, 13)))
            standing = drawn_standing(draw, yard, boxes)
            lot = list(names(boxes)) + ["zz"]
            self.check_steps(heights, standing, ("in", "zz"), tuple(draw.sample(lot, len(lot))))
            self.check_steps(heights, standing, ("in", "zz"), tuple(lot))
            self.check_steps(heights, standing, ("in", "zz"), tuple(lot[::-1]))

    def test_the_coming_box_is_one_of_them(self):
        heights, standing = (2, 1, 1), (("a",), ("b",), ())
        for order, lowest in ((("a", "b", "x"), "x"), (("x", "a", "b"), "b"), (("x", "b", "a"), "a")):
            steps = rule_steps(Yard(heights), standing, ("in", "x"), order)
            self.assertEqual(plain_run(heights, steps, standing)[-1][0][0], lowest)
        # All boxes are as they lie already, so nothing is moved.
        self.assertEqual(len(rule_steps(Yard(heights), standing, ("in", "x"), ("b", "x", "a"))), 1)
        self.assertEqual(len(rule_steps(Yard((1, 1, 1)), (("a",), (), ("c",)), ("in", "b"), ("c", "b", "a"))), 1)

    def test_what_is_refused(self):
        yard, full = Yard((2, 1, 1)), (("a", "b"), ("c",), ("d",))
        bad = (None, ("a",), ("a", "a"))
        for order in bad + (("a", "b", "c"), ("c", "b", "a")):
            for box in "abc":
                self.assert_told(Refused, "box", rule_steps, yard, STANDING, ("in", box), order)
            self.assert_told(Refused, "box", rule_steps, yard, full, ("in", "a"), order)
            self.assert_told(Refused, "room", rule_steps, yard, full, ("in", "e"), order)
            self.assert_told(NoName, "e", rule_steps, yard, full, ("out", "e"), order)
            self.assert_told(NoName, "d", rule_steps, yard, STANDING, ("out", "d"), order)
        for order in bad:
            self.assertRaises(InvalidOrder, rule_steps, yard, full, ("out", "a"), order)
        self.assert_told(Refused, "deep", rule_steps, yard, full, ("out", "a"), ("d", "c", "b", "a"))
        self.assert_told(InvalidOrder, 3, rule_steps, yard, full, ("out", "a"), ("d", "c", "b"))
        # As many places are free as lie above it: it is deep, and can go.
        self.assert_same(rule_steps(yard=yard, standing=STANDING, event=("out", "a"), order=("a", "b", "c")),
                         (("move", 0, 2), ("out", "a", 0)))
        self.assert_standing_first(rule_steps, ("in", "a"), None)
        self.assert_standing_first(rule_steps, ("out", "z"), ())

    def test_wrong_orders(self):
        yard = Yard((2, 1, 1))
        for order, at in (((), 0), (("a",), 1), (("a", "b"), 2), (("b", "c"), 2), (("a", "a"), 1), (("a", "b", "c", "c"), 3),
                          (("a", "b", "c", "d"), 3), (("d", "a", "b", "c"), 0), (("a", None), 1), (("a", "b", "b"), 2),
                          (["a", "b", "c"], -1), (None, -1), ("abc", -1), (("a", ["b"], "c"), 1), (("a", "b", True), 2),
                          (("a", "b", ("c",)), 2)):
            self.assert_told(InvalidOrder, at, rule_steps, yard, STANDING, ("out", "a"), order)
        for order, at in (((), 0), (("a", "b", "c"), 3), (("d",), 1), (("d", "d"), 1), (("a", "b", "c", "d", "a"), 4),
                          (("a", "b", "c", "e"), 3), (("e",), 0), (None, -1), ([], -1)):
            self.assert_told(InvalidOrder, at, rule_steps, yard, STANDING, ("in", "d"), order)
        for value in any_values() + strange_papers():
            at = -1 if not isinstance(value, tuple) else 1 if value == ("a",) else 0
            self.assert_told(InvalidOrder, at, rule_steps, yard, STANDING, ("out", "a"), value)
            self.assert_told(InvalidOrder, at, rule_steps, yard, STANDING, ("in", "d"), value)
            if value != "abc" and value != "a":
                self.assert_told(InvalidOrder, 2, rule_steps, yard, STANDING, ("out", "a"), ("c", "b", value))

    def test_an_empty_yard(self):
        self.assert_same(rule_steps(Yard((1, 1, 1)), ((), (), ()), ("in", "a"), ("a",))[0][:2], ("in", "a"))
        self.assert_told(InvalidOrder, 0, rule_steps, Yard((1, 1, 1)), ((), (), ()), ("in", "a"), ("b",))
        self.assert_told(NoName, "a", rule_steps, Yard((1, 1, 1)), ((), (), ()), ("out", "a"), ())


class TestRulePlan(Checks):

    def check_plan(self, heights, timetable):
        """The steps of the rule, one event after another; they end where nobody can go on."""
        yard, plan = Yard(heights), rule_plan(Yard(heights), timetable)
        stuck = stuck_event(yard, timetable)
        self.assertEqual(plan_events(plan), timetable[:stuck])
        if stuck is None:
            self.assert_same(plan_paper(yard, plan).table, court(yard, timetable).table)
        at, standing = 0, ((),) * len(heights)
        for number, event in enumerate(timetable[:stuck]):
            order = plain_order(timetable, number + 1 if event[0] == "in" else number)
            steps = rule_steps(yard, standing, event, order)
            self.assertEqual(plan[at:at + len(steps)], steps)
            at, standing = at + len(steps), plain_run(heights, steps, standing)[-1]
        self.assertEqual(at, len(plan))
        return stuck

    def test_all_short_timetables(self):
        for heights, length in (((1, 1, 1), 7), ((2, 1, 1), 9), ((1, 2, 2), 7)):
            for timetable in all_timetables(sum(heights), length):
                self.check_plan(heights, timetable)

    def test_it_goes_as_far_as_anybody_can(self):
        stuck = []
        for heights, timetable in some_busy(63, 20):
            stuck.append(self.check_plan(heights, timetable))
            self.assertEqual(plain_stuck(heights, timetable), stuck[-1])
        self.assertGreater(len([at for at in stuck if at is not None]), 20)
        self.assertGreater(stuck.count(None), 20)

    def test_long_timetables(self):
        draw = random.Random(64)
        with self.within(20):
            for _ in range(60):
                heights = tuple([draw.choice((1, 2, 3, 6, 12)) for _ in range(draw.choice((3, 4, 12)))])
                low = max(0, sum(heights) - draw.choice((1, 2, 3, 12)))
                self.check_plan(heights, busy_timetable(draw, sum(heights), min(200, sum(heights) + 50), low))

    def test_limits(self):
        lot = names(200)
        comings = tuple([("in", box) for box in lot[:132]])
        turns = tuple([event for at in range(34) for event in (("in", lot[132 + at]), ("out", lot[131 - at]))])
        with self.within(10):
            for turn in (1, -1):
                self.assertIsNone(self.check_plan(TALLEST, (comings + turns)[:200]))
                self.check_plan(TALLEST, comings[::turn] + tuple([("out", box) for box in lot[:68]]))
        self.assert_same(rule_plan(Yard(TALLEST), ()), ())

    def test_no_foresight(self):
        # The same first events and the same order of leaving then: the steps are the same, whatever comes behind.
        seen = 0
        for heights, timetable in some_busy(65, 12):
            yard = Yard(heights)
            for at in range(1, len(timetable) + 1):
                order = leaving_order(timetable, at)
                # All go at once in this order; or others come between, who go at once again.
                ways = [tuple([("out", box) for box in order]), ()]
                comers = ["new" + letter for letter in "abcdefghijklmn"]
                ways.append(tuple([event for box, comer in zip(order, comers)
                                   for event in (("out", box), ("in", comer), ("out", comer))]))
                for behind in ways:
                    other = timetable[:at] + behind
                    if leaving_order(other, at) == order:
                        steps = self.steps_for(rule_plan(yard, timetable), at)
                        self.assertEqual(steps, self.steps_for(rule_plan(yard, other), at))
                        seen += 1
        self.assertGreater(seen, 500)

    def steps_for(self, plan, many):
        """The steps of a plan up to its event with this number, or all."""
        ends = [at for at, step in enumerate(plan) if step[0] != "move"]
        return plan[:ends[many - 1] + 1] if len(ends) >= many else plan

    def test_the_overview(self):
        plan = rule_plan(yard=Yard((2, 1, 1)), timetable=STUCK)
        self.assertEqual(plan_events(plan), STUCK[:8])
        self.assertIs(type(court(Yard((2, 1, 1)), STUCK[:8])), Dealt)

    def test_wrong_timetables(self):
        self.assert_timetable_first(rule_plan)


if __name__ == "__main__":
    unittest.main()
