"""Points 24 and 25: plans, what they lead through, their texts and papers, mirrored, bare and switched ones."""

import random
import unittest

from staysdeep.court import Dealt, check_court
from staysdeep.errors import InvalidPlan, InvalidSize, InvalidText, InvalidTimetable, Refused
from staysdeep.mirrors import mirror, mirror_paper
from staysdeep.plans import (
    bare_plan, does_plan, need_plan, plan_events, plan_mirror, plan_moves, plan_paper, plan_states, plan_text,
    read_plan, run_plan, switched_plan,
)
from staysdeep.standings import deep_boxes
from staysdeep.yards import Yard
from tests.helpers import (
    STUCK, TALLEST, WRONG_TIMETABLES, Checks, any_values, names, nested, plain_class, plain_keys, plain_move, plain_run,
    strange_papers,
)

HEIGHTS = (2, 1, 1)
PLAN = (("in", "a", 1), ("in", "b", 0), ("in", "c", 2), ("in", "d", 0), ("out", "a", 1), ("move", 0, 1), ("out", "b", 0),
        ("out", "c", 2))
TEXT = "in a 1\nin b 0\nin c 2\nin d 0\nout a 1\nmove 0 1\nout b 0\nout c 2"
# What is no plan of the yard 2 1 1, with what is told of it.
WRONG_PLANS = (
    (None, -1), (True, -1), ("in a 1", -1), ([], -1), (list(PLAN), -1), (("in", "a", 0), 0), ((["in", "a", 0],), 0),
    ((("in", "a"),), 0), ((("in", "a", 0, 0),), 0), ((("in", "a", "0"),), 0), ((("in", "a", True),), 0),
    ((("in", "a", 3),), 0), ((("in", "a", -1),), 0), ((("in", "", 0),), 0), ((("in", "A", 0),), 0), ((("in", 1, 0),), 0),
    ((("in", ["a"], 0),), 0), ((("out", "a", 0),), 0), ((("move", 0, 1),), 0), ((("go", "a", 0),), 0), (((),), 0),
    (((None, "a", 0),), 0), (((["in"], "a", 0),), 0), ((("in", "a", 0), None), 1), ((("in", "a", 0), ("in", "a", 1)), 1),
    ((("in", "a", 1), ("in", "b", 1)), 1), ((("in", "a", 1), ("out", "a", 0)), 1), ((("in", "a", 1), ("out", "b", 1)), 1),
    ((("in", "a", 1), ("move", 1, 1)), 1), ((("in", "a", 1), ("move", True, 0)), 1), ((("in", "a", 1), ("move", 1, 3)), 1),
    ((("in", "a", 1), ("move", 1, -1)), 1), ((("in", "a", 1), ("move", -2, 0)), 1), ((("in", "a", 1), ("move", 1, False)), 1),
    ((("in", "a", 1), ("in", "b", 2), ("move", 1, 2)), 2), ((("in", "a", 1), ("out", "a", 1), ("in", "a", 1)), 2),
    ((("in", "a", 0), ("in", "b", 0), ("out", "a", 0)), 2), ((("in", "a", 1), ("move", 1, 0), ("out", "a", 1)), 2),
    ((("in", "a", 1), ("move", "a", 0)), 1), ((("move", "a", 0),), 0), (PLAN[:2] + PLAN[2:4] + (("in", "e", 0),), 4),
)


def drawn_plan(draw, heights, steps, moves=0.4, emptied=False):
    """Some plan, with so many moves; at the end, if this is wished, all boxes go."""
    left, plan, standing = list(names(steps)), [], ((),) * len(heights)
    stacks = range(len(heights))
    while len(plan) < steps or (emptied and any(standing)):
        told = [("out", pile[-1], stack) for stack, pile in enumerate(standing) if pile]
        if len(plan) < steps:
            told += [("in", left[-1], stack) for stack in stacks if len(standing[stack]) < heights[stack]] * 2
            if draw.random() < moves:
                ways = [(one, other) for one in stacks for other in stacks]
                told = [("move",) + way for way in ways if plain_move(heights, standing, way)] or told
        step = draw.choice(told)
        left = [box for box in left if box != step[1]]
        plan.append(step)
        standing = plain_run(heights, [step], standing)[-1]
    return tuple(plan)


def some_plans(seed, many, emptied=False):
    draw = random.Random(seed)
    yards = ((1, 1, 1), (2, 1, 1), (1, 3, 1), (2, 2, 1), (3, 2, 1), (2, 1, 1, 1), (1,) * 12, (12, 12, 12))
    return [(heights, drawn_plan(draw, heights, draw.randrange(1, 40), 0.4, emptied))
            for heights in yards for _ in range(many)]


def plain_parts(plan):
    """(events, for each state the number of steps that lead to it)."""
    ends = [0] + [at + 1 for at, step in enumerate(plan) if step[0] != "move"]
    return tuple([step[:2] for step in plan if step[0] != "move"]), ends


def plain_paper(heights, plan):
    events, ends = plain_parts(plan)
    way = plain_run(heights, plan)
    rows = []
    for (stack, level), (first, last) in plain_keys(heights, events):
        lain = {standing[stack][level] for standing in way[ends[first]:ends[last] + 1]}
        assert len(lain) == 1
        rows.append(((stack, level), (first, last), lain.pop()))
    return tuple(rows)


class TestPlans(Checks):

    def test_plans_that_can_be_done(self):
        for heights, plan in some_plans(40, 12):
            yard, way = Yard(heights), plain_run(heights, plan)
            events, ends = plain_parts(plan)
            self.assertIsNone(need_plan(yard, plan))
            self.assert_same(run_plan(yard, plan), tuple(way))
            self.assert_same(plan_events(plan), events)
            self.assert_same(plan_moves(plan), len(plan) - len(events))
            self.assert_same(plan_states(yard, plan), tuple([way[end] for end in ends]))
            self.assertIs(does_plan(yard, events, plan), True)

    def test_the_empty_plan(self):
        for heights in ((1, 1, 1), TALLEST):
            yard, empty = Yard(heights), ((),) * len(heights)
            self.assertIsNone(need_plan(yard, ()))
            self.assert_same(run_plan(yard, ()), (empty,))
            self.assert_same(plan_states(yard, ()), (empty,))
            self.assert_same((plan_events(()), plan_moves(()), plan_text(())), ((), 0, ""))
            self.assert_same(plan_paper(yard, ()).table, ())
            self.assert_same((plan_mirror(()), bare_plan(()), switched_plan(yard, (), (), 0)), ((), (), ()))
            self.assertIs(does_plan(yard, (), ()), True)

    def test_what_is_no_plan(self):
        yard = Yard(HEIGHTS)
        for value, at in WRONG_PLANS:
            for call in (need_plan, run_plan, plan_states, plan_paper):
                self.assert_told(InvalidPlan, at, call, yard, value)
            self.assert_told(InvalidPlan, at, switched_plan, yard, value, value, -1)
            self.assert_told(InvalidPlan, at, switched_plan, yard, PLAN, value, -1)
            self.assert_told(InvalidPlan, at, switched_plan, yard, value, None, -1)
            self.assertIs(does_plan(yard, (("in", "a"),), value), False)
            self.assertIs(does_plan(yard, (), value), False)

    def test_any_value(self):
        yard = Yard((1, 1, 1))
        for value in any_values() + strange_papers():
            at = -1 if not isinstance(value, tuple) else 0
            if value != ():
                self.assert_told(InvalidPlan, at, need_plan, yard, value)
            self.assertIs(does_plan(yard, (), value), isinstance(value, tuple) and value == ())
            self.assert_told(InvalidPlan, 1, need_plan, yard, (("in", "a", 0), value))
            for step in ((value, "a", 0), ("in", value, 0), ("in", "a", value), ("move", value, 1), ("move", 0, value)):
                good = plain_run((1, 1, 1), (("in", "b", 0), step)) != 1
                if good:
                    self.assertIsNone(need_plan(yard, (("in", "b", 0), step)))
                else:
                    self.assert_told(InvalidPlan, 1, need_plan, yard, (("in", "b", 0), step))

    def test_steps_tried_at_random(self):
        draw = random.Random(41)
        words, things = ("in", "out", "move"), ("a", "b", "c", 0, 1, 2, 3, -1)
        told = set()
        for _ in range(4000):
            plan = tuple([(draw.choice(words), draw.choice(things), draw.choice((0, 1, 2, 2, 3))) for _ in range(4)])
            way = plain_run(HEIGHTS, plan)
            told.add(way if isinstance(way, int) else None)
            if isinstance(way, int):
                self.assert_told(InvalidPlan, way, run_plan, Yard(HEIGHTS), plan)
            else:
                self.assert_same(run_plan(Yard(HEIGHTS), plan), tuple(way))
        self.assertGreaterEqual(told, {0, 1, 2, 3})

    def test_does_plan(self):
        yard, events = Yard(HEIGHTS), plan_events(PLAN)
        self.assertIs(does_plan(yard, events, PLAN), True)
        self.assertIs(does_plan(yard=yard, timetable=events, value=PLAN + (("move", 1, 0),)), True)
        self.assertIs(does_plan(yard, events, PLAN[:-1]), False)
        self.assertIs(does_plan(yard, events[:-1], PLAN), False)
        self.assertIs(does_plan(yard, events[1:2] + events[:1] + events[2:], PLAN), False)
        self.assertIs(does_plan(yard, events, list(PLAN)), False)
        self.assertIs(does_plan(Yard((1, 1, 1)), events[:3], PLAN[:3]), True)
        self.assertIs(does_plan(Yard((1, 1, 1, 1)), events, PLAN), False)
        self.assertIs(does_plan(yard, STUCK, PLAN), False)
        for value, at in WRONG_TIMETABLES:
            self.assert_told(InvalidTimetable, at, does_plan, Yard((1, 1, 1)), value, ())
            self.assert_told(InvalidTimetable, at, does_plan, Yard((1, 1, 1)), value, None)


class TestTexts(Checks):

    def test_there_and_back(self):
        for heights, plan in some_plans(42, 8):
            text = plan_text(plan)
            self.assertEqual(text, "\n".join([" ".join(map(str, step)) for step in plan]))
            self.assert_same(read_plan(text), plan)
        self.assert_same(plan_text(PLAN), TEXT)
        self.assert_same(read_plan(text=TEXT), PLAN)
        self.assert_same(read_plan(""), ())

    def test_steps_that_cannot_be_done(self):
        text = "out a 11\nmove 11 10\nin a 0\nin a 0\nmove 0 11\nin move 1\nout in 2"
        self.assert_same(read_plan(text), (
            ("out", "a", 11), ("move", 11, 10), ("in", "a", 0), ("in", "a", 0), ("move", 0, 11), ("in", "move", 1),
            ("out", "in", 2),
        ))

    def test_wrong_lines(self):
        wrong = ["", " ", "in", "in a", "in a 0 0", "in  0", "in a 00", "in a 01", "in a 12", "in a -1", "in a +1", "in A 0",
                 "in a b", "In a 0", "in a 0 ", " in a 0", "in  a 0", "in a  0", "move 0 0", "move 0 12", "move 12 0",
                 "move a 0", "move 0 a", "move 00 1", "move 0", "move 0 1 2", "out 0 a", "out abcdefghi 0", "out 1 1",
                 "in a\t0", "go a 0", "out 0 1", "in 1 0", "go 0 1", "in a 0\r", "in \u00e4 0", "in a \u0661", "out a1 0"]
        for line in wrong:
            self.assert_told(InvalidText, 1, read_plan, "in a 0\n" + line)
            self.assert_told(InvalidText, 0, read_plan, line + "\nin a 0")
            self.assert_told(InvalidText, 2, read_plan, "in a 0\nmove 0 1\n" + line + "\n" + line)
        self.assert_told(InvalidText, 1, read_plan, "in a 0\n")
        self.assert_told(InvalidText, 0, read_plan, "\n")

    def test_no_strings(self):
        for value in any_values():
            if not isinstance(value, str):
                self.assert_told(InvalidText, -1, read_plan, value)
            elif value != "":
                self.assert_told(InvalidText, 0, read_plan, value)

    def test_sixty_thousand_signs(self):
        plan = (("in", "a", 10),) + (("move", 10, 11), ("move", 11, 10)) * 2700
        with self.within(5):
            self.assert_same(read_plan(plan_text(plan)), plan)


class TestPapers(Checks):

    def test_where_the_boxes_lie(self):
        for heights, plan in some_plans(43, 12):
            paper = plan_paper(Yard(heights), plan)
            self.assertIs(type(paper), Dealt)
            self.assert_same(paper.table, plain_paper(heights, plan))
            self.assertIs(check_court(Yard(heights), plan_events(plan), paper), True)

    def test_the_example(self):
        self.assert_same(plan_paper(Yard(HEIGHTS), PLAN).table, (
            ((0, 0), (3, 5), "b"), ((0, 1), (4, 4), "d"), ((1, 0), (4, 4), "a"), ((2, 0), (4, 4), "c"),
        ))
        self.assertEqual(plan_paper(yard=Yard(HEIGHTS), plan=PLAN + (("move", 1, 2),)), plan_paper(Yard(HEIGHTS), PLAN))

    def test_mirrors(self):
        for heights, plan in some_plans(44, 12, True):
            yard, turned = Yard(heights), plan_mirror(plan)
            self.assertEqual(plan_events(turned), mirror(plan_events(plan)))
            self.assertEqual(run_plan(yard, turned), run_plan(yard, plan)[::-1])
            self.assertEqual(plan_paper(yard, turned), mirror_paper(plan_events(plan), plan_paper(yard, plan)))
            self.assert_same(plan_mirror(plan=turned), plan)
        plan = (("in", "a", 1), ("move", 1, 0), ("in", "b", 1), ("out", "b", 1), ("move", 0, 2), ("out", "a", 2))
        self.assert_same(plan_mirror(plan), (
            ("in", "a", 2), ("move", 2, 0), ("in", "b", 1), ("out", "b", 1), ("move", 0, 1), ("out", "a", 1),
        ))

    def test_mirrors_of_plans_with_boxes_that_stay(self):
        for plan in ((("in", "a", 0),), PLAN, PLAN[:4], (("in", "a", 0), ("out", "a", 0), ("in", "b", 0), ("move", 0, 1))):
            self.assert_told(Refused, "boxes", plan_mirror, plan)


class TestBarePlans(Checks):

    def test_rows_of_moves(self):
        plan = (("in", "a", 0), ("move", 0, 1), ("move", 1, 2), ("in", "b", 0), ("move", 0, 1), ("move", 1, 0),
                ("out", "a", 2), ("move", 0, 1), ("move", 1, 2))
        self.assert_same(bare_plan(plan), (("in", "a", 0), ("move", 0, 2), ("in", "b", 0), ("out", "a", 2), ("move", 0, 2)))
        # Moves on two sides of an event are not put together.
        plan = (("in", "a", 0), ("move", 0, 1), ("in", "b", 0), ("move", 1, 2), ("out", "b", 0), ("move", 2, 1))
        self.assert_same(bare_plan(plan), plan)
        self.assert_same(bare_plan((("move", 0, 1), ("move", 1, 2), ("in", "a", 0))), (("move", 0, 2), ("in", "a", 0)))

    def test_what_is_left(self):
        for heights, plan in some_plans(45, 12):
            yard, bare = Yard(heights), bare_plan(plan=plan)
            self.assertEqual(plan_events(bare), plan_events(plan))
            self.assertEqual(plan_states(yard, bare), plan_states(yard, plan))
            self.assertEqual(run_plan(yard, bare)[-1], run_plan(yard, plan)[-1])
            self.assertEqual(plan_paper(yard, bare), plan_paper(yard, plan))
            for before, behind in zip(bare, bare[1:]):
                self.assertFalse(before[0] == behind[0] == "move" and before[2] == behind[1])
            self.assert_same(bare_plan(bare), bare)


class TestSwitchedPlans(Checks):

    def check_switched(self, heights, one, other, state):
        """Replays a switched plan; tells whether there is one."""
        yard, found = Yard(heights), switched_plan(Yard(heights), one, other, state)
        (events, ends), others = plain_parts(one), plain_parts(other)[1]
        here = plain_run(heights, one)[ends[state]]
        there = plain_run(heights, other)[others[state]]
        self.assertIs(found is not None, there in plain_class(heights, here))
        self.assertIs(found is not None, deep_boxes(yard, here) == deep_boxes(yard, there))
        if found is None:
            return False
        self.assertEqual(plan_events(found), events)
        rest = other[others[state]:]
        self.assertEqual(found[:ends[state]], one[:ends[state]])
        self.assertEqual(found[len(found) - len(rest):], rest)
        walk = found[ends[state]:len(found) - len(rest)]
        self.assertEqual(plan_events(walk), ())
        self.assertEqual(plain_run(heights, walk, here)[-1], there)
        table = plan_paper(yard, found).table
        for row, ours, theirs in zip(table, plan_paper(yard, one).table, plan_paper(yard, other).table):
            self.assertEqual(row, ours if row[1][0] <= state else theirs)
            if row[1][0] <= state <= row[1][1]:
                self.assertEqual(row, theirs)
        return True

    def test_plans_of_one_timetable(self):
        draw, told = random.Random(46), []
        for heights in ((2, 1, 1), (2, 2, 1), (1, 3, 1), (1, 1, 1), (2, 1, 1, 1)):
            for _ in range(12):
                one, other = self.two_plans(draw, heights)
                for state in range(len(plan_events(one)) + 1):
                    told.append(self.check_switched(heights, one, other, state))
                    self.assertTrue(self.check_switched(heights, one, one, state))
        self.assertGreater(told.count(True), 50)
        self.assertGreater(told.count(False), 50)

    def two_plans(self, draw, heights):
        """Two plans that carry out one timetable, drawn step by step from the same standings."""
        while True:
            one = drawn_plan(draw, heights, 14)
            other = self.another_plan(draw, heights, plain_parts(one)[0])
            if other is not None:
                return one, other

    def another_plan(self, draw, heights, events):
        plan, standing = [], ((),) * len(heights)
        for word, box in events:
            for _ in range(40):
                stacks = [stack for stack in range(len(heights)) if word == "out" or len(standing[stack]) < heights[stack]]
                steps = [(word, box, stack) for stack in stacks if word == "in" or standing[stack][-1:] == (box,)]
                if steps and draw.random() < 0.6:
                    break
                pairs = [(stack, to) for stack in range(len(heights)) for to in range(len(heights))]
                ways = [way for way in pairs if plain_move(heights, standing, way)]
                if ways:
                    plan.append(("move",) + draw.choice(ways))
                    standing = plain_run(heights, plan[-1:], standing)[-1]
            if not steps:
                return None
            plan.append(draw.choice(steps))
            standing = plain_run(heights, plan[-1:], standing)[-1]
        return tuple(plan)

    def test_forty_boxes(self):
        draw = random.Random(47)
        lot = names(40)
        with self.within(10):
            for heights in ((12, 12, 12, 5), (12, 12, 12, 12), (4,) * 12):
                room = [stack for stack, height in enumerate(heights) for _ in range(height)]
                one = tuple([("in", box, stack) for box, stack in zip(lot, room)])
                other = tuple([("in", box, stack) for box, stack in zip(lot, draw.sample(room, len(room)))])
                for state in (0, 1, 20, 40):
                    found = switched_plan(Yard(heights), one, other, state)
                    if found is not None:
                        self.assertEqual(plan_events(found), plan_events(one))
                        self.assertEqual(found[:state], one[:state])
                        self.assertEqual(found[len(found) - 40 + state:], other[state:])
                        run_plan(Yard(heights), found)
                    self.assertTrue(found is not None or sum(heights) < 50 or state > 20)

    def test_what_is_refused(self):
        yard = Yard(HEIGHTS)
        for other in (PLAN[:-1], PLAN[1:2] + PLAN[:1] + PLAN[2:], (), (("in", "a", 1),)):
            for state in (0, -1, 100):
                self.assert_told(Refused, "events", switched_plan, yard, PLAN, other, state)
        for state in (-1, 8, 9, 10 ** 30, -7):
            self.assert_told(InvalidSize, "state", switched_plan, yard, PLAN, PLAN, state)
            self.assert_told(InvalidSize, "state", switched_plan, yard, (), (), state)
        self.assert_same(switched_plan(yard=yard, one=PLAN, other=PLAN, state=7), PLAN)
        self.assert_same(switched_plan(yard, PLAN, PLAN, 0), PLAN)

    def test_moves_behind_the_event(self):
        one = (("in", "a", 0), ("move", 0, 1), ("move", 1, 2))
        other = (("in", "a", 1), ("move", 1, 0))
        self.assert_same(switched_plan(Yard(HEIGHTS), one, other, 0), other)
        found = switched_plan(Yard(HEIGHTS), one, other, 1)
        self.assert_same((found[0], found[-1]), (("in", "a", 0), ("move", 1, 0)))
        self.assert_same(plain_run(HEIGHTS, found)[-2], ((), ("a",), ()))


class TestLimits(Checks):

    def test_long_plans(self):
        draw = random.Random(48)
        with self.within(20):
            for heights in (TALLEST, (12, 12, 12), (1, 1, 1)):
                plan = drawn_plan(draw, heights, 200, 0.0)
                moves = [("move", stack, other) for stack in range(3) for other in range(3)]
                standing, steps = plain_run(heights, plan)[-1], []
                for _ in range(5000):
                    good = [step for step in moves if not isinstance(plain_run(heights, [step], standing), int)]
                    if good:
                        steps.append(draw.choice(good))
                        standing = plain_run(heights, steps[-1:], standing)[-1]
                whole, yard = plan + tuple(steps), Yard(heights)
                self.assertEqual(run_plan(yard, whole)[-1], standing)
                self.assertEqual(plan_states(yard, bare_plan(whole)), plan_states(yard, plan))
                self.assertEqual(plan_paper(yard, whole), plan_paper(yard, plan))
                self.assertEqual(read_plan(plan_text(whole)), whole)

    def test_deeply_nested_values(self):
        for kind in (list, tuple):
            value = nested(kind, 30)
            self.assert_told(InvalidPlan, 0, need_plan, Yard(HEIGHTS), (value,))
            self.assert_told(InvalidPlan, 0, need_plan, Yard(HEIGHTS), (("in", value, 0),))


if __name__ == "__main__":
    unittest.main()
