"""Points 56 and 57: sheets, which are papers with their questions."""

import random
import unittest
from itertools import permutations

from staysdeep.checker import sheet_holds
from staysdeep.compared import carries_all, parted_by
from staysdeep.court import Dealt, Short, court, shorts
from staysdeep.digs import can_dig, dig_walk
from staysdeep.dues import Crowd, due_order
from staysdeep.errors import InvalidStanding, InvalidTimetable, NoName, YardError
from staysdeep.kinds import Given, Lacking, kinds_court, need_requests
from staysdeep.mover import plan_for
from staysdeep.rule import rule_plan
from staysdeep.standings import need_standing
from staysdeep.starts import Torn, need_onward, start_court
from staysdeep.timetables import need_timetable
from staysdeep.walks import walk_between
from staysdeep.wagons import turn_walk
from staysdeep.yards import Yard
from tests.helpers import (
    STUCK, TALLEST, WRONG_STANDINGS, WRONG_TIMETABLES, Checks, all_standings, all_tables, any_values, every_standing,
    is_right_table, names, nested, plain_deep, plain_keys, plain_run, plain_walk, strange_papers,
)
from tests.onward import boxes_in, few_keys, keeps_told, lying, plain_late, plain_torns, some_onward
from tests.test_compared import FEW, carries, short_timetables
from tests.test_court import plain_shorts, some_busy
from tests.test_dues import keeps, plain_crowds, some_dues
from tests.test_kinds import all_choices, plain_lacks, some_requests
from tests.test_wagons import odd_boxes

LENGTHS = {"walk": 2, "parted": 2, "raised": 2, "turned": 3, "dealt": 1, "short": 1, "plan": 1, "lesser": 1, "onward": 2,
           "torn": 2, "late": 2, "order": 2, "crowd": 2, "given": 1, "lacking": 1}
HEIGHTS = (2, 1, 1)
YARD = Yard(HEIGHTS)
ONE, OTHER = (("a", "b"), ("c",), ()), (("a", "c"), (), ("b",))
LAIN = (("a", "b"), ("c",), ("d",))
ONWARD = (("in", "d"), ("out", "b"))
REQUESTS = (("in", "a", "x"), ("in", "b", "x"), ("in", "c", "y"), ("in", "d", "y"), ("out", "x"))
LACKING = tuple([("in", box, "x") for box in "abcd"]) + (("out", "x"),) * 4
EXCHANGED = tuple([("in", box, kind) for box, kind in zip("abcd", "wxyz")])
EXCHANGED += (("out", "w"), ("in", "e", "v"), ("out", "x"), ("in", "f", "v"), ("out", "y"))


def passes(need, *values):
    """Whether a value is what a function asks for."""
    try:
        need(*values)
    except (InvalidStanding, InvalidTimetable):
        return False
    return True


def is_walk(heights, one, other, value):
    """Whether any value is a walk from one standing to another one."""
    if not passes(need_standing, Yard(heights), one) or not passes(need_standing, Yard(heights), other):
        return False
    return type(value) is tuple and type(plain_walk(heights, one, value)) is tuple and plain_walk(heights, one, value)[0][-1] == other


def is_among(value, told):
    return repr(value) in [repr(row) for row in told]


def is_table(heights, events, table, boxes=()):
    """Whether any value is a right table."""
    if type(table) is not tuple or not all(type(row) is tuple and len(row) == 3 and type(row[2]) is str for row in table):
        return False
    keys = plain_keys(heights, events, boxes)
    return repr([row[:2] for row in table]) == repr(keys) and is_right_table(heights, events, table, boxes)


def are_dues(standing, dues):
    if type(dues) is not tuple or not all(type(pair) is tuple and len(pair) == 2 for pair in dues):
        return False
    there, told = boxes_in(standing), []
    for box, due in dues:
        if not is_among(box, there) or box in told or type(due) is not int or due < 1:
            return False
        told.append(box)
    return True


def plain_holds(heights, kind, question, value):
    """Whether a sheet holds, from the definitions; the question has the right length."""
    yard = Yard(heights)
    if kind in ("walk", "turned"):
        if not is_walk(heights, *question[:2], value):
            return False
        return kind == "walk" or repr(question[2]) == repr(odd_boxes(heights, question[0], value)[1])
    if kind == "parted":
        if not all(passes(need_standing, yard, one) for one in question) or boxes_in(question[0]) != boxes_in(question[1]):
            return False
        deep = [(stack, level) for stack, pile in enumerate(plain_deep(heights, question[0])) for level in range(len(pile))]
        return is_among(value, [place for place in deep if lying(question[0], place) != lying(question[1], place)])
    if kind == "raised":
        standing, box = question
        if not passes(need_standing, yard, standing) or not is_among(box, boxes_in(standing)) or type(value) is not tuple:
            return False
        way = plain_walk(heights, standing, value)
        return type(way) is tuple and any(pile[-1:] == (box,) for pile in way[0][-1])
    if kind in ("dealt", "short", "plan"):
        events = question[0]
        if not passes(need_timetable, yard, events):
            return False
        if kind == "dealt":
            return is_table(heights, events, value)
        if kind == "short":
            return is_among(value, plain_shorts(heights, events))
        way = plain_run(heights, value) if type(value) is tuple else 0
        return type(way) is list and tuple([step[:2] for step in value if step[0] != "move"]) == events
    if kind == "lesser":
        other = question[0]
        if type(other) is not Yard or not passes(need_timetable, other, value):
            return False
        return carries(other.heights, value) and not carries(heights, value)
    if kind in ("onward", "torn", "late"):
        standing, events = question
        if not passes(need_onward, yard, standing, events):
            return False
        if kind == "onward":
            return is_table(heights, events, value, boxes_in(standing)) and keeps_told(standing, events, None, value)
        return is_among(value, (plain_torns if kind == "torn" else plain_late)(heights, standing, events))
    return plain_others(heights, kind, question, value)


def plain_others(heights, kind, question, value):
    if kind in ("order", "crowd"):
        standing, dues = question
        if not passes(need_standing, Yard(heights), standing) or not are_dues(standing, dues):
            return False
        if kind == "order":
            return is_among(value, permutations(boxes_in(standing))) and keeps(heights, standing, dues, value)
        return is_among(value, plain_crowds(heights, standing, dues, 12))
    requests = question[0]
    if not passes(need_requests, Yard(heights), requests):
        return False
    if kind == "lacking":
        return is_among(value, plain_lacks(heights, requests))
    return type(value) is tuple and len(value) == 2 and is_among(value[0], all_choices(requests)) and (
        is_table(heights, value[0], value[1]))


def changes_of(value, depth=0):
    """A value changed a little at each place."""
    if type(value) is bool or value is None:
        return [0, "a", ()]
    if type(value) is int:
        return [value + 1, value - 1, bool(value), None, str(value)] if value in (0, 1) else [value + 1, value - 1, None]
    if type(value) is str:
        return ["q", "a", "b", "in", value + "z", value.upper(), [value], None, (value,)]
    if type(value) is tuple:
        told = [list(value), value + value[-1:], value[:-1], value[1:], value[::-1], value + ((),), None, (value,)]
        for at, thing in enumerate(value):
            told += [value[:at] + (other,) + value[at + 1:] for other in changes_of(thing, depth + 1)]
            told.append(value[:at] + value[at + 1:])
        return told
    return [None]


def right_sheets():
    """Right sheets of each kind: (heights, kind, question, paper)."""
    dealt = court(YARD, STUCK[:6]).table
    torn = start_court(YARD, ONE, (("in", "d"), ("out", "a")))
    given, lacking = kinds_court(YARD, REQUESTS), kinds_court(YARD, EXCHANGED)
    crowd = due_order(YARD, LAIN, (("a", 1), ("b", 3)))
    return [
        (HEIGHTS, "walk", (ONE, OTHER), walk_between(YARD, ONE, OTHER)), (HEIGHTS, "walk", (ONE, ONE), ()),
        (HEIGHTS, "parted", (ONE, (("b", "a"), ("c",), ())), (0, 0)),
        (HEIGHTS, "parted", (LAIN, (("a", "c"), ("b",), ("d",))), (1, 0)),
        (HEIGHTS, "raised", (ONE, "b"), ()), (HEIGHTS, "raised", (ONE, "a"), ((0, 2),)),
        (HEIGHTS, "turned", (ONE, OTHER, ("b", "c")), turn_walk(YARD, ONE, OTHER, ("b", "c"))),
        (HEIGHTS, "turned", (ONE, ONE, ("b", "c")), turn_walk(YARD, ONE, ONE, ("b", "c"))),
        (HEIGHTS, "dealt", (STUCK[:6],), dealt), (HEIGHTS, "dealt", ((),), ()), (HEIGHTS, "short", (STUCK,), (1, (3, 9), ())),
        (HEIGHTS, "plan", (STUCK[:6],), plan_for(YARD, STUCK[:6], Dealt(dealt))), (HEIGHTS, "plan", ((),), ()),
        (HEIGHTS, "lesser", (Yard((1, 1, 1, 1)),), parted_by(YARD, Yard((1, 1, 1, 1)))),
        ((1, 1, 1), "lesser", (YARD,), tuple([("in", box) for box in "abcd"])),
        (HEIGHTS, "onward", (ONE, ONWARD), start_court(YARD, ONE, ONWARD).table), (HEIGHTS, "onward", (((), (), ()), ()), ()),
        (HEIGHTS, "torn", (ONE, (("in", "d"), ("out", "a"))), (torn.place, torn.stretch, torn.start, torn.end)),
        (HEIGHTS, "late", (((), (), ()), STUCK), (1, (3, 9), ())),
        (HEIGHTS, "order", (LAIN, (("a", 2), ("d", 1))), ("d", "a", "b", "c")),
        (HEIGHTS, "crowd", (LAIN, (("a", 1), ("b", 3))), (crowd.first, crowd.end, crowd.boxes)),
        (HEIGHTS, "given", (REQUESTS,), (given.choice, given.table)), (HEIGHTS, "given", ((),), ((), ())),
        (HEIGHTS, "lacking", (EXCHANGED,), (lacking.cover, lacking.stretch, lacking.leasts)),
    ]


class TestSheets(Checks):

    def check(self, heights, kind, question, value):
        """Whether a sheet holds, as the definitions tell."""
        told = sheet_holds(Yard(heights), kind, question, value)
        wanted = plain_holds(heights, kind, question, value)
        self.assertIs(told, wanted, (heights, kind, question, value))
        return told

    def test_right_sheets(self):
        seen = set()
        for heights, kind, question, value in right_sheets():
            self.assertTrue(self.check(heights, kind, question, value), (kind, question, value))
            self.assertIs(sheet_holds(yard=Yard(heights), kind=kind, question=question, value=value), True)
            seen.add(kind)
        self.assertEqual(seen, set(LENGTHS))

    def test_papers_changed_a_little(self):
        told = []
        for heights, kind, question, value in right_sheets():
            for other in changes_of(value):
                told.append(self.check(heights, kind, question, other))
        self.assertGreater(told.count(True), 5)
        self.assertGreater(told.count(False), 500)

    def test_questions_changed_a_little(self):
        told = []
        for heights, kind, question, value in right_sheets():
            for at, thing in enumerate(question):
                if isinstance(thing, Yard):
                    others = [Yard((1, 1, 1)), Yard((2, 2, 1)), Yard((1, 1, 2)), None, (1, 1, 1, 1), [thing], "1 1 1 1"]
                else:
                    others = changes_of(thing)
                for other in others:
                    told.append(self.check(heights, kind, question[:at] + (other,) + question[at + 1:], value))
            for wrong in (list(question), question[:-1], question + question[-1:], None, (question,), ()):
                self.assertIs(sheet_holds(Yard(heights), kind, wrong, value), False)
        self.assertGreater(told.count(True), 5)
        self.assertGreater(told.count(False), 500)

    def test_other_kinds(self):
        for heights, kind, question, value in right_sheets():
            for other in list(LENGTHS) + ["", "walks", "Walk", " walk", None, True, 0, (kind,), [kind], Yard((1, 1, 1))]:
                if not isinstance(other, str) or other not in LENGTHS:
                    self.assertIs(sheet_holds(Yard(heights), other, question, value), False)
                elif len(question) == LENGTHS[other]:
                    self.check(heights, other, question, value)
                else:
                    self.assertIs(sheet_holds(Yard(heights), other, question, value), False)

    def test_papers_of_other_classes(self):
        self.assertIs(sheet_holds(YARD, "dealt", (STUCK[:6],), court(YARD, STUCK[:6])), False)
        self.assertIs(sheet_holds(YARD, "short", (STUCK,), court(YARD, STUCK)), False)
        self.assertIs(sheet_holds(YARD, "short", (STUCK,), Short(1, (3, 9), ())), False)
        self.assertIs(sheet_holds(YARD, "torn", (ONE, (("in", "d"), ("out", "a"))), Torn((0, 0), (0, 2), "a", None)), False)
        crowd = due_order(YARD, LAIN, (("a", 1), ("b", 3)))
        self.assertIs(type(crowd), Crowd)
        for kind in ("order", "crowd"):
            self.assertIs(sheet_holds(YARD, kind, (LAIN, (("a", 1), ("b", 3))), crowd), False)
        self.assertIs(sheet_holds(YARD, "given", (REQUESTS,), kinds_court(YARD, REQUESTS)), False)
        self.assertIs(type(kinds_court(YARD, REQUESTS)), Given)
        self.assertIs(type(kinds_court(YARD, EXCHANGED)), Lacking)

    def test_any_values(self):
        values = any_values() + strange_papers() + [nested(tuple, 29)]
        for heights, kind, question, value in right_sheets():
            yard = Yard(heights)
            for other in values:
                if isinstance(other, tuple) and len(other) == LENGTHS[kind]:
                    self.check(heights, kind, other, value)
                else:
                    self.assertIs(sheet_holds(yard, kind, other, value), False)
                if repr(other) != repr(value):
                    self.check(heights, kind, question, other)
                if not isinstance(other, (str, Yard)):
                    for at in range(len(question)):
                        changed = question[:at] + (other,) + question[at + 1:]
                        self.check(heights, kind, changed, value)
                        self.check(heights, kind, changed, other)
                for at in range(len(value) if isinstance(value, tuple) else 0):
                    self.check(heights, kind, question, value[:at] + (other,) + value[at + 1:])
        for other in values:
            if other not in LENGTHS if isinstance(other, str) else True:
                self.assertIs(sheet_holds(YARD, other, (ONE, OTHER), ()), False)

    def test_wrong_standings_and_timetables(self):
        for value, _ in WRONG_STANDINGS:
            for kind, question in (("walk", (value, ONE)), ("walk", (ONE, value)), ("walk", (value, value)), ("parted", (value, ONE)),
                                   ("parted", (ONE, value)), ("raised", (value, "a")), ("turned", (value, value, ())),
                                   ("onward", (value, ())), ("order", (value, ())), ("crowd", (value, ())), ("torn", (value, ()))):
                for paper in ((), (0, 0), ((), ())):
                    self.assertIs(sheet_holds(YARD, kind, question, paper), False)
        for value, _ in WRONG_TIMETABLES:
            for kind in ("dealt", "short", "plan", "given", "lacking"):
                self.assertIs(sheet_holds(Yard((1, 1, 1)), kind, (value,), ()), False)
            self.assertIs(sheet_holds(Yard((1, 1, 1)), "onward", (((), (), ()), value), ()), False)

    def test_dues_of_another_form(self):
        order = ("d", "a", "b", "c")
        good = (("a", 2), ("d", 1))
        self.assertIs(sheet_holds(YARD, "order", (LAIN, good), order), True)
        for dues in (list(good), (["a", 2],), (("a", 2, 2),), (("a",),), (("a", True),), (("a", 0),), (("e", 2),), (("a", 2), ("a", 3)),
                     (("a", None),), ((None, 2),), (("A", 2),), None, "ab", (("a", -5),), ((["a"], 2),), (("a", "2"),)):
            self.assertIs(sheet_holds(YARD, "order", (LAIN, dues), order), False)
            self.assertIs(sheet_holds(YARD, "crowd", (LAIN, dues), (0, 0, ("a",))), False)
        self.assertIs(sheet_holds(YARD, "order", (LAIN, (("a", 1000), ("b", 10 ** 30))), order), True)


class TestTogether(Checks):

    def test_walk_and_parted(self):
        for heights in ((1, 1, 1), (2, 1, 1), (1, 3, 1)):
            for boxes in range(min(4, sum(heights)) + 1):
                standings = all_standings(heights, tuple("abcd"[:boxes]))
                for one in standings[::5]:
                    for other in standings[::7]:
                        walk = walk_between(Yard(heights), one, other)
                        parted = [(stack, level) for stack, height in enumerate(heights) for level in range(height)
                                  if sheet_holds(Yard(heights), "parted", (one, other), (stack, level))]
                        self.assertIs(walk is None, bool(parted))
                        if walk is not None:
                            self.assertIs(sheet_holds(Yard(heights), "walk", (one, other), walk), True)
        self.assertIs(sheet_holds(YARD, "parted", (ONE, (("b", "a"), ("d",), ())), (0, 0)), False)

    def test_dealt_plan_and_short(self):
        kinds = set()
        for heights, timetable in some_busy(330, 12, events=10):
            yard, paper = Yard(heights), court(Yard(heights), timetable)
            table = paper.table if isinstance(paper, Dealt) else ()
            found = sheet_holds(yard, "dealt", (timetable,), table)
            planned = sheet_holds(yard, "plan", (timetable,), rule_plan(yard, timetable))
            short = [row for row in plain_shorts(heights, timetable) if sheet_holds(yard, "short", (timetable,), row)]
            self.assertEqual(len(short), len(shorts(yard, timetable)))
            self.assertEqual((found, planned), (not short, not short))
            if short and few_keys(heights, ((),) * len(heights), timetable):
                self.assertEqual(all_tables(heights, timetable), [])
            kinds.add(found)
        self.assertEqual(kinds, {True, False})

    def test_onward_torn_and_late(self):
        kinds = set()
        for heights, standing, events in some_onward(331, 30, length=10):
            yard, question = Yard(heights), (standing, events)
            paper = start_court(yard, standing, events)
            table = paper.table if isinstance(paper, Dealt) else ()
            found = sheet_holds(yard, "onward", question, table)
            torn = [row for row in plain_torns(heights, *question) if sheet_holds(yard, "torn", question, row)]
            late = [row for row in plain_late(heights, *question) if sheet_holds(yard, "late", question, row)]
            self.assertIs(found, not torn and not late)
            kinds.add((found, bool(torn), bool(late)))
        self.assertGreaterEqual(kinds, {(True, False, False), (False, True, False), (False, False, True)})

    def test_order_and_crowd(self):
        kinds = set()
        for heights, standing, dues in some_dues(332, 14):
            yard, question = Yard(heights), (standing, dues)
            orders = [row for row in permutations(boxes_in(standing)) if sheet_holds(yard, "order", question, row)]
            crowds = [row for row in plain_crowds(heights, standing, dues, 8) if sheet_holds(yard, "crowd", question, row)]
            self.assertIs(bool(orders), not crowds)
            kinds.add(bool(orders))
        self.assertEqual(kinds, {True, False})

    def test_given_and_lacking(self):
        kinds = set()
        for heights, requests in some_requests(333, 8, most=60):
            yard, paper = Yard(heights), kinds_court(Yard(heights), requests)
            lacks = [row for row in plain_lacks(heights, requests) if sheet_holds(yard, "lacking", (requests,), row)]
            given = []
            for choice in all_choices(requests):
                told = court(yard, choice)
                if isinstance(told, Dealt) and sheet_holds(yard, "given", (requests,), (choice, told.table)):
                    given.append(choice)
            self.assertIs(bool(given), not lacks)
            self.assertIs(bool(given), isinstance(paper, Given))
            kinds.add(bool(given))
        self.assertEqual(kinds, {True, False})

    def test_lesser(self):
        for heights in FEW:
            for other in FEW:
                less = carries_all(Yard(heights), Yard(other))
                timetable = parted_by(Yard(heights), Yard(other))
                self.assertIs(sheet_holds(Yard(heights), "lesser", (Yard(other),), timetable), not less)
                if less:
                    for row in short_timetables(5, 7)[::17]:
                        self.assertIs(sheet_holds(Yard(heights), "lesser", (Yard(other),), row), False)

    def test_raised(self):
        for heights in ((1, 1, 1), (2, 1, 1), (1, 3, 1)):
            for standing in every_standing(heights)[::9]:
                for box in boxes_in(standing):
                    can, walk = can_dig(Yard(heights), standing, box), dig_walk(Yard(heights), standing, box)
                    self.assertIs(sheet_holds(Yard(heights), "raised", (standing, box), walk), can)
                    ends = [(), ((0, 1),), ((0, 2),), ((1, 0),), ((1, 2),), ((2, 0),), ((2, 1),), ((1, 0), (1, 2))]
                    if not can:
                        self.assertFalse(any(sheet_holds(Yard(heights), "raised", (standing, box), one) for one in ends))

    def test_limits(self):
        lot = names(144)
        full = tuple([lot[at:at + 12] for at in range(0, 132, 12)]) + ((),)
        walk = ((0, 11), (11, 0)) * 2500
        timetable = tuple([("in", box) for box in lot]) + tuple([("out", box) for box in lot[:56]])
        yard = Yard(TALLEST)
        with self.within(30):
            self.assertIs(sheet_holds(yard, "walk", (full, full), walk), True)
            self.assertIs(sheet_holds(yard, "turned", (full, full, ()), walk), True)
            self.assertIs(sheet_holds(yard, "raised", (full, lot[11]), walk), True)
            self.assertIs(sheet_holds(yard, "dealt", (timetable,), court(yard, timetable).table), True)
            self.assertIs(sheet_holds(yard, "plan", (timetable,), rule_plan(yard, timetable)), True)
            away = tuple([("out", box) for box in lot[11:132:12]])
            self.assertIs(sheet_holds(yard, "onward", (full, away), start_court(yard, full, away).table), True)

    def test_nothing_is_raised(self):
        draw, values = random.Random(334), any_values() + strange_papers()
        for _ in range(3000):
            kind = draw.choice(list(LENGTHS))
            question = tuple([draw.choice(values) for _ in range(LENGTHS[kind])])
            value = tuple([draw.choice(values) for _ in range(draw.choice((2, 3, 4)))])
            try:
                self.assertIn(sheet_holds(YARD, kind, question, value), (True, False))
            except (YardError, NoName) as error:
                self.fail(error)


if __name__ == "__main__":
    unittest.main()
