"""Point 38: events behind a standing that are to end in a wished one."""

import random
import unittest

from staysdeep.court import Dealt, Short
from staysdeep.ends import check_end, end_court, end_steps
from staysdeep.errors import InvalidStanding, InvalidTimetable, Refused
from staysdeep.starts import Torn, start_court
from staysdeep.walks import walk_between
from staysdeep.yards import Yard
from tests.helpers import (
    TALLEST, WRONG_STANDINGS, all_standings, all_tables, any_values, drawn_standing, is_right_table, names, plain_ends,
    plain_states, strange_papers,
)
from tests.onward import (
    OnwardChecks, boxes_in, few_keys, keeps_told, plain_late, plain_onward_table, plain_torns, shown, some_onward,
    tall_cases,
)
from tests.test_starts import EVENTS, STANDING, WRONG_EVENTS, YARD

WISHED = (("a", "d"), ("c",), ())
ON = (("in", "d"), ("out", "b"))


def wished_ones(draw, heights, standing, events, many):
    """Some standings of the boxes that are there in the last state."""
    lot = tuple(sorted(plain_states(events, boxes_in(standing))[-1]))
    told = all_standings(heights, lot)
    return draw.sample(told, min(many, len(told)))


def drawn_wish(draw, yard, boxes):
    """Some standing of just these boxes."""
    drawn = drawn_standing(draw, yard, len(boxes))
    named = dict(zip(boxes_in(drawn), boxes))
    return tuple([tuple([named[box] for box in pile]) for pile in drawn])


def with_goings(draw, heights, standing, events):
    """The events, and behind them goings until no place is deep; what is short then has neither end."""
    there = sorted(plain_states(events, boxes_in(standing))[-1])
    many = max(0, len(there) - sum(heights) + max(heights))
    return events + tuple([("out", box) for box in draw.sample(there, many)])


class TestEndCourt(OnwardChecks):

    def check_court_of(self, heights, standing, events, wished):
        """The paper from its definition."""
        yard, paper = Yard(heights), end_court(Yard(heights), standing, events, wished)
        torns = plain_torns(heights, standing, events, wished)
        late = plain_late(heights, standing, events, wished)
        if torns:
            self.assertIs(type(paper), Torn)
            self.assert_same(shown(paper), torns[0])
        elif late:
            self.assertIs(type(paper), Short)
            self.assert_same(shown(paper), late[0])
        else:
            self.assertIs(type(paper), Dealt)
            self.assert_same(paper.table, plain_onward_table(heights, standing, events, wished))
        self.assertIs(check_end(yard, standing, events, wished, paper), True)
        return paper

    def test_dealt_exactly_if_a_plain_search_ends_there(self):
        draw, told = random.Random(220), []
        for heights, standing, events in some_onward(221, 60, length=12):
            if draw.random() < 0.6:
                events = with_goings(draw, heights, standing, events)
            ends = plain_ends(heights, events, standing)[-1]
            for wished in wished_ones(draw, heights, standing, events, 5) + draw.sample(sorted(ends), min(2, len(ends))):
                paper = self.check_court_of(heights, standing, events, wished)
                self.assertIs(type(paper) is Dealt, wished in ends)
                told.append(type(paper))
        for kind in (Torn, Short, Dealt):
            self.assertGreater(told.count(kind), 5, kind)

    def test_without_events(self):
        told = []
        for heights, boxes in (((1, 1, 1), 2), ((1, 1, 1), 3), ((2, 1, 1), 3), ((1, 3, 1), 3), ((2, 1, 1), 0)):
            rows = all_standings(heights, tuple("abcd"[:boxes]))
            for one in rows[::3]:
                for other in rows[::4]:
                    paper = self.check_court_of(heights, one, (), other)
                    walk = walk_between(Yard(heights), one, other)
                    self.assertIs(type(paper) is Dealt, walk is not None)
                    told.append(type(paper))
        self.assertEqual(set(told), {Torn, Dealt})

    def test_a_wished_end_that_is_the_start(self):
        for heights, standing, events in some_onward(222, 10, length=0):
            self.assertEqual(events, ())
            paper = self.check_court_of(heights, standing, (), standing)
            self.assertEqual(paper, start_court(Yard(heights), standing, ()))
            self.assert_same(end_steps(Yard(heights), standing, (), standing, paper), ())
        events = (("in", "d"), ("out", "d"))
        paper = end_court(YARD, STANDING, events, STANDING)
        self.assertIs(type(paper), Dealt)
        self.check_replay((2, 1, 1), STANDING, events, end_steps(YARD, STANDING, events, STANDING, paper), paper.table)

    def test_yards_of_all_kinds(self):
        draw, told = random.Random(223), []
        for heights, standing, events in tall_cases(224, 90):
            wished = drawn_wish(draw, Yard(heights), sorted(plain_states(events, boxes_in(standing))[-1]))
            told.append(type(self.check_court_of(heights, standing, events, wished)))
        self.assertEqual(set(told), {Torn, Dealt})

    def test_both_ends_of_one_stretch(self):
        # The low place is deep all along: the box there must be wished there, too.
        self.assert_same(shown(end_court(YARD, STANDING, ON, (("c", "d"), ("a",), ()))), ((0, 0), (0, 2), "a", "c"))
        self.assertIs(type(end_court(YARD, STANDING, ON, WISHED)), Dealt)
        # Gone in between and another box is wished: both are told.
        self.assert_same(shown(end_court(YARD, STANDING, EVENTS, (("b", "c"), ("d",), ()))), ((0, 0), (0, 2), "a", "b"))
        # Deep only at the end, where the wished box is new: it came later than the stretch began.
        events = (("in", "c"), ("in", "d"), ("out", "a"))
        torn = end_court(YARD, (("a",), ("b",), ()), events, (("d", "c"), ("b",), ()))
        self.assert_same(shown(torn), ((0, 0), (1, 3), None, "d"))

    def test_a_short_of_a_stretch_with_neither_end(self):
        standing = ((), (), ())
        events = tuple([("in", box) for box in "abcd"]) + (("out", "a"), ("in", "e"), ("out", "b"), ("in", "f"), ("out", "c"))
        wished = (("d", "e"), ("f",), ())
        self.assert_same(shown(end_court(YARD, standing, events, wished)), ((0, 0), (3, 9), None, "d"))
        events += (("out", "d"),)
        self.assert_same(shown(end_court(YARD, standing, events, ((), ("e",), ("f",)))), (1, (3, 9), ()))
        self.assertIs(check_end(YARD, standing, events, ((), ("e",), ("f",)), Short(1, (3, 9), ())), True)

    def test_wrong_things_in_order(self):
        calls = ((end_court, ()), (check_end, (None,)), (end_steps, (None,)))
        for call, rest in calls:
            self.assert_standing_first(call, None, None, *rest)
            for value, at in WRONG_EVENTS:
                self.assert_told(InvalidTimetable, at, call, YARD, STANDING, value, None, *rest)
            for value, at in WRONG_STANDINGS:
                self.assert_told(InvalidStanding, at, call, YARD, STANDING, EVENTS, value, *rest)
            for value in (STANDING, ((), (), ()), (("b",), ("c",), ()), (("b", "c"), ("d",), ("a",)), (("b", "c"), ("x",), ())):
                self.assert_told(Refused, "boxes", call, YARD, STANDING, EVENTS, value, *rest)
        self.assert_told(Refused, "boxes", end_court, YARD, STANDING, (), ((), (), ()))

    def test_by_name(self):
        paper = end_court(yard=YARD, standing=STANDING, events=ON, wished=WISHED)
        self.assertIs(check_end(value=paper, wished=WISHED, events=ON, standing=STANDING, yard=YARD), True)
        steps = end_steps(yard=YARD, standing=STANDING, events=ON, wished=WISHED, dealt=paper)
        self.assertEqual(steps, end_steps(YARD, STANDING, ON, WISHED, paper))


class TestCheckEnd(OnwardChecks):

    def test_all_right_tables(self):
        draw, seen = random.Random(225), []
        for heights, standing, events in some_onward(226, 20, length=8):
            if not few_keys(heights, standing, events):
                continue
            tables = all_tables(heights, events, boxes_in(standing))
            for wished in wished_ones(draw, heights, standing, events, 3):
                right = [keeps_told(standing, events, wished, table) for table in tables]
                seen.append(sum(right))
                for table, wanted in list(zip(tables, right))[::max(1, len(tables) // 25)]:
                    self.assertIs(check_end(Yard(heights), standing, events, wished, Dealt(table)), wanted)
                self.assertIs(any(right), type(end_court(Yard(heights), standing, events, wished)) is Dealt)
        self.assertIn(0, seen)
        self.assertGreater(max(seen), 10)

    def test_all_right_torns_and_shorts(self):
        draw, told = random.Random(227), []
        for heights, standing, events in some_onward(228, 40, length=12):
            yard = Yard(heights)
            if draw.random() < 0.6:
                events = with_goings(draw, heights, standing, events)
            for wished in wished_ones(draw, heights, standing, events, 3):
                torns = plain_torns(heights, standing, events, wished)
                late = plain_late(heights, standing, events, wished)
                for row in torns:
                    self.assertIs(check_end(yard, standing, events, wished, Torn(*row)), True)
                    for wrong in (row[:2] + (row[3], row[2]), row[:3] + (None,), row[:2] + (None, row[3]), row[:3] + ("zz",)):
                        self.assertIs(check_end(yard, standing, events, wished, Torn(*wrong)), wrong in torns)
                for row in late + plain_late(heights, standing, events):
                    self.assertIs(check_end(yard, standing, events, wished, Short(*row)), row in late)
                told.append((len(torns), len(late)))
        self.assertGreater(max(told)[0], 1)
        self.assertGreater(max(many for _, many in told), 0)

    def test_any_value(self):
        for value in any_values() + strange_papers():
            self.assertIs(check_end(YARD, STANDING, ON, WISHED, value), False)
            self.assertIs(check_end(YARD, STANDING, ON, WISHED, Dealt(value)), False)
            self.assertIs(check_end(YARD, STANDING, EVENTS, (("b", "c"), ("d",), ()), Torn((0, 0), (0, 2), "a", value)), False)
        self.assertIs(check_end(YARD, STANDING, EVENTS, (("b", "c"), ("d",), ()), Torn((0, 0), (0, 2), "a", "b")), True)

    def test_tables_changed_a_little(self):
        draw, told = random.Random(229), []
        for heights, standing, events in some_onward(230, 20, length=8):
            for wished in wished_ones(draw, heights, standing, events, 4):
                paper = end_court(Yard(heights), standing, events, wished)
                if not isinstance(paper, Dealt) or not paper.table:
                    continue
                boxes = sorted({box for _, box in events} | set(boxes_in(standing)))
                for _ in range(6):
                    at, table = draw.randrange(len(paper.table)), list(paper.table)
                    table[at] = table[at][:2] + (draw.choice(boxes),)
                    right = is_right_table(heights, events, tuple(table), boxes_in(standing))
                    right = right and keeps_told(standing, events, wished, tuple(table))
                    told.append(check_end(Yard(heights), standing, events, wished, Dealt(tuple(table))))
                    self.assertIs(told[-1], right)
        self.assertEqual(set(told), {True, False})


class TestEndSteps(OnwardChecks):

    def check_steps(self, heights, standing, events, wished, table):
        steps = end_steps(Yard(heights), standing, events, wished, Dealt(table))
        way = self.check_replay(heights, standing, events, steps, table)
        self.assert_same(way[-1], wished)
        self.assertLessEqual(len(way) - 1, 100 * len(boxes_in(wished)))

    def test_each_right_table(self):
        draw, many = random.Random(231), 0
        for heights, standing, events in some_onward(232, 20, length=8):
            tables = all_tables(heights, events, boxes_in(standing)) if few_keys(heights, standing, events) else []
            for wished in wished_ones(draw, heights, standing, events, 4):
                right = [table for table in tables if keeps_told(standing, events, wished, table)]
                for table in right[::max(1, len(right) // 5)]:
                    self.check_steps(heights, standing, events, wished, table)
                    many += 1
        self.assertGreater(many, 200)

    def test_yards_of_all_kinds(self):
        draw, done = random.Random(233), 0
        for heights, standing, events in tall_cases(234, 150, boxes=46):
            lot = sorted(plain_states(events, boxes_in(standing))[-1])
            if len(lot) > 40 or not isinstance(start_court(Yard(heights), standing, events), Dealt):
                continue
            # What the steps from the start lead to, and boxes that are not deep shuffled, can be wished.
            table = start_court(Yard(heights), standing, events).table
            held = {place: box for place, (_, last), box in table if last == len(events)}
            rest = [box for box in lot if box not in held.values()]
            draw.shuffle(rest)
            piles = []
            for stack, height in enumerate(heights):
                pile = [held[(stack, level)] for level in range(height) if (stack, level) in held]
                piles.append(tuple(pile + [rest.pop() for _ in range(min(len(rest), height - len(pile)))]))
            paper = end_court(Yard(heights), standing, events, tuple(piles))
            self.assertIs(type(paper), Dealt)
            self.check_steps(heights, standing, events, tuple(piles), paper.table)
            done += 1
        self.assertGreater(done, 40)

    def test_papers_that_are_refused(self):
        dealt = end_court(YARD, STANDING, ON, WISHED)
        other = (("a", "c"), ("d",), ())
        self.assertIs(type(end_court(YARD, STANDING, ON, other)), Dealt)
        for value in any_values() + strange_papers() + [dealt.table, Dealt(list(dealt.table)), Dealt(dealt.table[1:])]:
            self.assert_told(Refused, "paper", end_steps, YARD, STANDING, ON, WISHED, value)
        wished = (("c", "d"), ("a",), ())
        self.assert_told(Refused, "paper", end_steps, YARD, STANDING, ON, wished, end_court(YARD, STANDING, ON, wished))
        self.assert_told(Refused, "paper", end_steps, YARD, STANDING, ON, wished, dealt)

    def test_limits(self):
        lot = names(144)
        yard, full = Yard(TALLEST), tuple([lot[at:at + 12] for at in range(0, 144, 12)])
        away = tuple([("out", full[at % 12][11 - at // 12]) for at in range(104)])
        left = sorted(set(lot) - {box for _, box in away})
        wished = tuple([tuple(left[at::12]) for at in range(12)])
        with self.within(20):
            self.check_steps(TALLEST, full, away, wished, end_court(yard, full, away, wished).table)


if __name__ == "__main__":
    unittest.main()
