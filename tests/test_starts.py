"""Points 36 and 37: events behind a standing, what is torn, short or dealt, and the steps that carry them out."""

import random
import unittest

from staysdeep.court import Dealt, Short, court, stuck_event
from staysdeep.errors import InvalidStanding, InvalidTimetable, Refused
from staysdeep.starts import Torn, check_start, need_onward, start_court, start_steps, start_stuck
from staysdeep.yards import Yard
from tests.helpers import (
    STUCK, TALLEST, WRONG_STANDINGS, WRONG_TIMETABLES, all_standings, all_tables, any_values,
    every_standing, is_right_table, names, next_events, plain_stuck, strange_papers,
)
from tests.onward import (
    OnwardChecks, boxes_in, few_keys, keeps_told, plain_late, plain_onward_table, plain_torns, shown, some_onward,
    tall_cases,
)

YARD = Yard((2, 1, 1))
STANDING = (("a", "b"), ("c",), ())
EVENTS = (("in", "d"), ("out", "a"))
# What is no tuple of events behind the boxes a, b and c, in a yard of 4 places.
WRONG_EVENTS = (
    (None, -1), (False, -1), ("in d", -1), ([], -1), ([("in", "d")], -1), (("in", "d"), 0), ((["in", "d"],), 0),
    ((("in", "a"),), 0), ((("out", "d"),), 0), ((("in", "d"), ("in", "e")), 1), ((("out", "a"), ("in", "a")), 1),
    ((("out", "a"), ("out", "a")), 1), ((("in", "d"), ("out", "d"), ("in", "d")), 2), ((("in", "d"), None), 1),
    ((("in", True),), 0), ((("in", "D"),), 0), ((("out", "b"), ("out", "c"), ("out", "a"), ("out", "e")), 3),
)


class TestPaper(OnwardChecks):

    def test_equality(self):
        one = Torn((0, 0), (0, 2), "a", None)
        self.assertTrue(one == Torn((0, 0), (0, 2), "a", None))
        others = (Torn((0, 1), (0, 2), "a", None), Torn((0, 0), (0, 3), "a", None), Torn((0, 0), (0, 2), "b", None),
                  Torn((0, 0), (0, 2), "a", "a"))
        for other in others:
            self.assertTrue(one != other)
            self.assertFalse(one == other)
        for value in any_values() + [((0, 0), (0, 2), "a", None), Short((0, 0), (0, 2), "a")]:
            self.assertFalse(one == value)
            self.assertTrue(value != one)

    def test_arguments_are_kept_as_they_are(self):
        for value in any_values():
            torn = Torn(value, [value], (value,), end=value)
            self.assertIs(torn.place, value)
            self.assertIs(torn.stretch[0], value)
            self.assertIs(torn.start[0], value)
            self.assertIs(torn.end, value)
        self.assertEqual(vars(Torn(end=4, start=3, stretch=2, place=1)), {"place": 1, "stretch": 2, "start": 3, "end": 4})
        self.assertIn("__eq__", vars(Torn))


class TestNeedOnward(OnwardChecks):

    def test_right_ones(self):
        for value in ((), EVENTS, (("out", "c"), ("out", "a"), ("out", "b")), (("out", "a"), ("in", "d"), ("in", "e"))):
            self.assertIsNone(need_onward(YARD, STANDING, value))
        self.assertIsNone(need_onward(yard=YARD, standing=STANDING, value=EVENTS))
        for value, at in WRONG_TIMETABLES:
            self.assert_told(InvalidTimetable, at, need_onward, Yard((1, 1, 1)), ((), (), ()), value)
        self.assertIsNone(need_onward(YARD, ((), (), ()), STUCK))

    def test_wrong_ones_in_order(self):
        calls = ((need_onward, ()), (start_court, ()), (start_stuck, ()), (check_start, (None,)), (start_steps, (None,)))
        for call, rest in calls:
            for value, at in WRONG_EVENTS:
                self.assert_told(InvalidTimetable, at, call, YARD, STANDING, value, *rest)
            self.assert_standing_first(call, None, *rest)
            self.assert_standing_first(call, EVENTS, *rest)

    def test_any_value(self):
        for value in any_values() + strange_papers():
            if value != ():
                at = -1 if not isinstance(value, tuple) else 0
                self.assert_told(InvalidTimetable, at, need_onward, YARD, STANDING, value)
            self.assert_told(InvalidTimetable, 1, need_onward, YARD, STANDING, (("out", "a"), value))
            for event in (("in", value), (value, "b"), ("in", value, value)):
                if repr(event) in ("('in', 'abc')", "('in', 'in')", "('in', 'out')", "('out', 'b')"):
                    self.assertIsNone(need_onward(YARD, STANDING, (("out", "a"), event)))
                else:
                    self.assert_told(InvalidTimetable, 1, need_onward, YARD, STANDING, (("out", "a"), event))

    def test_limits(self):
        full = tuple([names(144)[at:at + 12] for at in range(0, 144, 12)])
        events = tuple([("out", box) for box in names(144)]) + tuple([("in", "n" + box) for box in names(56)])
        self.assertIsNone(need_onward(Yard(TALLEST), full, events))
        self.assert_told(InvalidTimetable, 0, need_onward, Yard(TALLEST), full, events[144:])


class TestStartCourt(OnwardChecks):

    def check_court_of(self, heights, standing, events):
        """The paper from its definition; returns its class."""
        paper = start_court(Yard(heights), standing, events)
        torns, late = plain_torns(heights, standing, events), plain_late(heights, standing, events)
        if torns:
            self.assertIs(type(paper), Torn)
            self.assert_same(shown(paper), torns[0])
        elif late:
            self.assertIs(type(paper), Short)
            self.assert_same(shown(paper), late[0])
        else:
            self.assertIs(type(paper), Dealt)
            self.assert_same(paper.table, plain_onward_table(heights, standing, events))
        self.assertIs(check_start(Yard(heights), standing, events, paper), True)
        return paper

    def test_all_short_events(self):
        told = []
        for heights, boxes, length in (((1, 1, 1), 3, 4), ((2, 1, 1), 3, 4), ((2, 1, 1), 4, 4), ((1, 1, 1), 2, 4)):
            lot = tuple("abcd"[:boxes])
            level = [tuple([("in", box) for box in lot])]
            rows = list(level)
            for _ in range(length):
                level = [events + (event,) for events in level for event in next_events(sum(heights), events)]
                rows.extend(level)
            for standing in all_standings(heights, lot)[::3]:
                for events in rows[::5]:
                    stuck = plain_stuck(heights, events[boxes:], standing)
                    paper = self.check_court_of(heights, standing, events[boxes:])
                    self.assertIs(type(paper) is Dealt, stuck is None)
                    self.assert_same(start_stuck(Yard(heights), standing, events[boxes:]), stuck)
                    told.append(type(paper))
        self.assertEqual(set(told), {Torn, Dealt})

    def test_dealt_exactly_if_a_plain_search_carries_it_out(self):
        told = []
        for heights, standing, events in some_onward(200, 50, length=12):
            stuck = plain_stuck(heights, events, standing)
            paper = self.check_court_of(heights, standing, events)
            self.assertIs(type(paper) is Dealt, stuck is None)
            self.assert_same(start_stuck(Yard(heights), standing, events), stuck)
            told.append(type(paper))
        for kind in (Torn, Short, Dealt):
            self.assertGreater(told.count(kind), 8, kind)

    def test_yards_of_all_kinds(self):
        told = []
        for heights, standing, events in tall_cases(201, 90):
            yard, paper = Yard(heights), self.check_court_of(heights, standing, events)
            stuck = start_stuck(yard, standing, events)
            told.append(type(paper))
            self.assertIs(stuck is None, type(paper) is Dealt)
            if stuck is not None:
                self.assertEqual(events[stuck][0], "out")
                self.assertIs(type(start_court(yard, standing, events[:stuck])), Dealt)
                self.assertIsNot(type(start_court(yard, standing, events[:stuck + 1])), Dealt)
        self.assertEqual(set(told), {Torn, Short, Dealt})

    def test_no_events(self):
        for heights in ((1, 1, 1), (2, 1, 1), (1, 3, 1)):
            for standing in every_standing(heights)[::4]:
                self.check_court_of(heights, standing, ())
                self.assertIsNone(start_stuck(Yard(heights), standing, ()))
        for heights in ((12, 1, 1), (1,) * 12, TALLEST):
            empty = ((),) * len(heights)
            self.assert_same(start_court(Yard(heights), empty, ()).table, ())

    def test_from_the_empty_yard_it_is_the_court(self):
        for heights, standing, events in some_onward(202, 12, length=12):
            if not boxes_in(standing):
                self.assertEqual(start_court(Yard(heights), standing, events), court(Yard(heights), events))
                self.assertEqual(start_stuck(Yard(heights), standing, events), stuck_event(Yard(heights), events))
        empty = ((), (), ())
        self.assertEqual(start_court(YARD, empty, STUCK), Short(1, (3, 9), ()))
        self.assert_same(start_stuck(YARD, empty, STUCK), 8)

    def test_the_example(self):
        torn = start_court(yard=YARD, standing=STANDING, events=EVENTS)
        self.assert_same(shown(torn), ((0, 0), (0, 2), "a", None))
        self.assert_same(start_stuck(yard=YARD, standing=STANDING, events=EVENTS), 1)
        self.assert_same(start_court(YARD, STANDING, (("in", "d"), ("out", "b"))).table, (
            ((0, 0), (0, 2), "a"), ((0, 1), (1, 1), "c"), ((1, 0), (1, 1), "d"), ((2, 0), (1, 1), "b"),
        ))

    def test_the_first_of_several(self):
        # Both low places are torn, and there is a short one, too; the stuck event is that of the other place.
        yard, standing = Yard((2, 2, 1)), (("a", "b"), ("c", "d"), ())
        events = (("in", "e"), ("out", "c"), ("in", "f"), ("out", "a"))
        self.assert_same(shown(start_court(yard, standing, events)), ((0, 0), (0, 4), "a", None))
        self.assert_same(start_stuck(yard, standing, events), 1)
        self.assertEqual(plain_stuck((2, 2, 1), events, standing), 1)

    def test_all_boxes_leave_and_others_come(self):
        standing = (("a", "b"), ("c",), ("d",))
        events = (("out", "d"), ("out", "b"), ("out", "a"), ("out", "c"), ("in", "e"), ("in", "f"), ("in", "g"), ("in", "h"))
        paper = self.check_court_of((2, 1, 1), standing, events)
        self.assertIs(type(paper), Dealt)
        self.assertIs(type(self.check_court_of((2, 1, 1), standing, events + (("out", "h"), ("in", "i")))), Dealt)

    def test_limits(self):
        lot = names(144)
        full = tuple([lot[at:at + 12] for at in range(0, 144, 12)])
        turns = tuple([event for at in range(100) for event in (("out", (full[at % 12][11] if at < 12 else "n" + names(200)[at])),
                                                               ("in", "n" + names(200)[at + 12]))])
        with self.within(20):
            paper = start_court(Yard(TALLEST), full, turns)
            self.assertIs(type(paper), Dealt)
            self.check_replay(TALLEST, full, turns, start_steps(Yard(TALLEST), full, turns, paper), paper.table)
            away = tuple([("out", full[at % 12][11 - at // 12]) for at in range(144)])
            comers = tuple([("in", "n" + box) for box in names(56)])
            paper = start_court(Yard(TALLEST), full, away + comers)
            self.check_replay(TALLEST, full, away + comers, start_steps(Yard(TALLEST), full, away + comers, paper), paper.table)
            self.assertIsNone(start_stuck(Yard(TALLEST), full, away + comers))
            self.assert_same(start_stuck(Yard(TALLEST), full, away[::-1] + comers), 0)


class TestCheckStart(OnwardChecks):

    def test_all_right_tables(self):
        seen = []
        for heights, standing, events in some_onward(203, 25, length=8):
            tables = all_tables(heights, events, boxes_in(standing)) if few_keys(heights, standing, events) else []
            right = [keeps_told(standing, events, None, table) for table in tables]
            seen.append(sum(right))
            for table, wanted in list(zip(tables, right))[::max(1, len(tables) // 40)]:
                self.assertIs(check_start(Yard(heights), standing, events, Dealt(table)), wanted)
            if few_keys(heights, standing, events):
                self.assertIs(any(right), type(start_court(Yard(heights), standing, events)) is Dealt)
        self.assertIn(0, seen)
        self.assertGreater(max(seen), 20)

    def test_all_right_torns_and_shorts(self):
        told = []
        for heights, standing, events in some_onward(204, 25, length=10):
            yard = Yard(heights)
            torns, late = plain_torns(heights, standing, events), plain_late(heights, standing, events)
            for row in torns:
                self.assertIs(check_start(yard, standing, events, Torn(*row)), True)
                self.assertIs(check_start(yard, standing, events, Torn(*row[:3], row[2])), False)
                self.assertIs(check_start(yard, standing, events, Torn(*row[:2], None, row[2])), False)
                self.assertIs(check_start(yard, standing, events, Torn(row[0], list(row[1]), *row[2:])), False)
                self.assertIs(check_start(yard, standing, events, Torn(list(row[0]), *row[1:])), False)
            for row in late:
                self.assertIs(check_start(yard, standing, events, Short(*row)), True)
                self.assertIs(check_start(yard, standing, events, Short(row[0], row[1], row[2] + ("zz",))), False)
                self.assertIs(check_start(yard, standing, events, Short(row[0], row[1], list(row[2]))), False)
                self.assertIs(check_start(yard, standing, events, Short(row[0] + 1, *row[1:])), False)
            told.append((len(torns), len(late)))
            for stack, pile in enumerate(standing):
                for level, box in enumerate(pile):
                    for last in range(len(events) + 1):
                        row = ((stack, level), (0, last), box, None)
                        self.assertIs(check_start(yard, standing, events, Torn(*row)), row in torns)
        self.assertGreater(max(told)[0], 1)
        self.assertGreater(max(many for _, many in told), 0)

    def test_a_short_of_a_stretch_with_state_0_is_none(self):
        # Fewer stay than are owed, but the boxes of the start are told: the paper is torn.
        self.assertIs(check_start(YARD, STANDING, EVENTS, Short(1, (0, 2), ("b", "c"))), False)
        standing, events = (("a",), ("b",), ("c",)), (("in", "d"), ("out", "a"), ("in", "e"), ("out", "b"), ("in", "f"),
                                                     ("out", "c"))
        self.assertEqual(plain_late((2, 1, 1), standing, events), [])
        self.assertIs(check_start(YARD, standing, events, Short(1, (0, 6), ())), False)
        self.assertIs(check_start(YARD, standing, events, Torn((0, 0), (0, 6), "a", None)), True)
        self.assertIs(check_start(YARD, ((), (), ()), STUCK, Short(1, (3, 9), ())), True)

    def test_any_value(self):
        for heights, standing, events in (((2, 1, 1), STANDING, EVENTS), ((2, 1, 1), STANDING, (("out", "b"),)),
                                          ((2, 1, 1), ((), (), ()), STUCK)):
            for value in any_values() + strange_papers():
                self.assertIs(check_start(Yard(heights), standing, events, value), False)
            for value in any_values():
                for paper in (Torn(value, (0, 2), "a", None), Torn((0, 0), value, "a", None), Short(1, (3, 9), [value]),
                              Torn((0, 0), (0, 2), value, value), Short(value, (3, 9), ("q",)), Dealt(value)):
                    self.assertIs(check_start(Yard(heights), standing, events, paper), False)
        self.assertIs(check_start(YARD, STANDING, EVENTS, Torn((0, 0), (0, 2), "a", None)), True)
        for torn in (Torn((0, False), (0, 2), "a", None), Torn((0, 0), (False, 2), "a", None), Torn((0, 0), (0, 2), "a", ()),
                     Torn((0, 0), (0, 2), "b", None), Torn((0, 1), (0, 2), "b", None), Torn((0, 0), (0, 1), "a", None)):
            self.assertIs(check_start(YARD, STANDING, EVENTS, torn), False)
        self.assertIs(check_start(yard=Yard((1, 1, 1)), standing=((), (), ()), events=(), value=Dealt(())), True)

    def test_tables_changed_a_little(self):
        draw, told = random.Random(205), []
        for heights, standing, events in some_onward(206, 20, length=9):
            paper = start_court(Yard(heights), standing, events)
            if not isinstance(paper, Dealt) or not paper.table:
                continue
            boxes = sorted({box for _, box in events} | set(boxes_in(standing)))
            for _ in range(12):
                at, table = draw.randrange(len(paper.table)), list(paper.table)
                place, stretch, box = table[at]
                table[at] = draw.choice([(place, stretch, draw.choice(boxes)), (place, (stretch[0], stretch[1] + 1), box),
                                         ((place[0], place[1] + 1), stretch, box)])
                right = is_right_table(heights, events, tuple(table), boxes_in(standing))
                right = right and keeps_told(standing, events, None, tuple(table))
                told.append(check_start(Yard(heights), standing, events, Dealt(tuple(table))))
                self.assertIs(told[-1], right)
                self.assertIs(check_start(Yard(heights), standing, events, Dealt(table)), False)
        self.assertEqual(set(told), {True, False})


class TestStartSteps(OnwardChecks):

    def test_each_right_table(self):
        many = 0
        for heights, standing, events in some_onward(207, 25, length=8):
            tables = all_tables(heights, events, boxes_in(standing)) if few_keys(heights, standing, events) else []
            tables = [table for table in tables if keeps_told(standing, events, None, table)]
            for table in tables[::max(1, len(tables) // 12)]:
                steps = start_steps(Yard(heights), standing, events, Dealt(table))
                self.assertEqual(len(self.check_replay(heights, standing, events, steps, table)), 1)
                many += 1
        self.assertGreater(many, 300)

    def test_yards_of_all_kinds(self):
        done = 0
        for heights, standing, events in tall_cases(208, 90):
            paper = start_court(Yard(heights), standing, events)
            if isinstance(paper, Dealt):
                steps = start_steps(yard=Yard(heights), standing=standing, events=events, dealt=paper)
                self.assertEqual(len(self.check_replay(heights, standing, events, steps, paper.table)), 1)
                done += 1
        self.assertGreater(done, 30)

    def test_no_events(self):
        self.assert_same(start_steps(Yard((1, 1, 1)), ((), (), ()), (), Dealt(())), ())
        full = (("a", "b"), ("c",), ("d",))
        self.assert_same(start_steps(YARD, full, (), start_court(YARD, full, ())), ())

    def test_papers_that_are_refused(self):
        dealt = start_court(YARD, STANDING, (("in", "d"), ("out", "b")))
        for value in any_values() + strange_papers() + [dealt.table, Dealt(list(dealt.table)), Dealt(dealt.table[1:])]:
            self.assert_told(Refused, "paper", start_steps, YARD, STANDING, (("in", "d"), ("out", "b")), value)
        for value in (dealt, start_court(YARD, STANDING, EVENTS)):
            self.assert_told(Refused, "paper", start_steps, YARD, STANDING, EVENTS, value)
        # A right table of [21] with another box in the place than the one that lies there.
        other = Dealt(tuple([row[:2] + ("c" if row[0] == (0, 0) else row[2],) for row in dealt.table]))
        self.assert_told(Refused, "paper", start_steps, YARD, STANDING, (("in", "d"), ("out", "b")), other)

    def test_wrong_things_in_order(self):
        for value, at in WRONG_STANDINGS:
            self.assert_told(InvalidStanding, at, start_steps, YARD, value, [], None)
        self.assert_told(InvalidTimetable, -1, start_steps, YARD, STANDING, [], None)


if __name__ == "__main__":
    unittest.main()
