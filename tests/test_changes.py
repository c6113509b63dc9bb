"""Points 52 and 53: changed timetables, days, and boxes that are told to go in an order."""

import random
import unittest
from itertools import permutations

from staysdeep.changes import (
    count_safe, day_order, dropped, exchanged, hold_of, need_days, safe_boxes, safe_standing,
)
from staysdeep.errors import InvalidOrder, InvalidSize, InvalidStanding, NoName, Refused
from staysdeep.joined import goes_on, marks, past_with
from staysdeep.starts import start_stuck
from staysdeep.yards import Yard
from tests.helpers import (
    STUCK, TALLEST, WRONG_STANDINGS, Checks, all_timetables, any_values, busy_timetable, drawn_standing, names,
    plain_deep, plain_ends, plain_places, strange_papers,
)
from tests.onward import boxes_in, lying
from tests.test_compared import carries
from tests.test_joined import FULL, WRONG_TABLES, YARD, coming_tables

DAYS = (((), ("a", "b", "c")), (("a", "d"), ("d", "e")))
# What is no row of days, with what is told of it.
WRONG_DAYS = (
    (None, -1), (True, -1), ([], -1), ([((), ())], -1), ("ab", -1), ((None,), 0), (((),), 0), ((((),),), 0),
    ((((), (), ()),), 0), (([(), ()],), 0), ((([], ()),), 0), ((((), ["a"]),), 0), ((((), ("b", "a")),), 0),
    ((((), ("a", "a")),), 0), ((((), ("A",)),), 0), ((((), (1,)),), 0), ((((), (True,)),), 0), ((((), ("",)),), 0),
    (((("a",), ()),), 0), ((((), ("a",)), ((), ("a",))), 1), ((((), ("a",)), (("a",), ()), (("a",), ())), 2),
    (((("a",), ("a",)), (("a",), ())), 1), ((((), ("a",)), (("a", "b"), ())), 1), ((((), ("a",)), (("a",), ("a",))), 1),
    ((((), ("a",)), (("a",), ()), ((), ("a",))), 2), ((((), ("a",)), None, (("b",), ())), 1), ((((), "ab"),), 0),
    (((("b", "a"), ("a", "b")),), 0), ((((), ("a", ["b"])),), 0), ((((), (("a",),)),), 0),
)


def goes_at(timetable, box):
    return timetable.index(("out", box)) if ("out", box) in timetable else len(timetable)


class TestChanged(Checks):

    def test_what_is_dropped(self):
        for timetable in all_timetables(4, 7):
            for box in sorted({box for _, box in timetable}):
                less = dropped(timetable, box)
                self.assert_same(less, tuple([event for event in timetable if event[1] != box]))
                if carries((2, 1, 1), timetable):
                    self.assertTrue(carries((2, 1, 1), less))
        self.assert_same(dropped(timetable=(("in", "a"), ("out", "a")), box="a"), ())
        self.assert_same(dropped(STUCK, "f"), STUCK[:7] + STUCK[8:])
        for box in ("g", "", None, True, (), 0):
            self.assert_told(NoName, box, dropped, STUCK, box)
        self.assert_told(NoName, "a", dropped, (), "a")

    def test_what_is_exchanged(self):
        kept = 0
        for timetable in all_timetables(4, 7):
            for at in range(len(timetable) - 1):
                (word, box), (other, name) = timetable[at:at + 2]
                if box == name:
                    self.assert_told(Refused, "box", exchanged, timetable, at)
                    continue
                turned = exchanged(timetable, at)
                self.assert_same(turned, timetable[:at] + ((other, name), (word, box)) + timetable[at + 2:])
                self.assertEqual(exchanged(turned, at), timetable)
                good = (word, other) == ("in", "out")
                good |= (word, other) == ("in", "in") and goes_at(timetable, name) >= goes_at(timetable, box)
                good |= (word, other) == ("out", "out") and timetable.index(("in", name)) > timetable.index(("in", box))
                if good and carries((2, 1, 1), timetable):
                    self.assertTrue(carries((2, 1, 1), turned))
                    kept += 1
        self.assertGreater(kept, 500)

    def test_where_nothing_is_exchanged(self):
        for timetable, at in ((STUCK, -1), (STUCK, 8), (STUCK, 10 ** 30), ((), 0), ((("in", "a"),), 0), ((), -1)):
            self.assert_told(InvalidSize, "at", exchanged, timetable, at)
        self.assert_same(exchanged(timetable=STUCK, at=7)[7:], (("out", "c"), ("in", "f")))
        self.assert_told(Refused, "box", exchanged, (("in", "a"), ("out", "a")), 0)
        # Whatever the yard: here it is no timetable any more.
        self.assert_same(exchanged((("in", "a"), ("in", "b")), 0), (("in", "b"), ("in", "a")))


def drawn_days(draw, days, most, full=False):
    """Some days with never more boxes than so many, where all is done in the order that saves most room.

    If it is to be full, many come, and mostly those go that came first.
    """
    there, rows, left = [], [], list("abcdefghijklmnopqrstuvwxyz")
    draw.shuffle(left)
    for _ in range(days):
        many = min(1 if full else draw.randrange(4), len(there))
        outs = there[:many] if full and draw.random() < 0.8 else draw.sample(there, many)
        there = [box for box in there if box not in outs]
        room = min(3, most - len(there))
        ins = [left.pop() for _ in range(room if full else draw.randrange(room + 1))]
        both = draw.sample(ins, draw.randrange(2)) if ins and draw.random() < 0.5 else []
        there += [box for box in ins if box not in both]
        rows.append((tuple(sorted(outs + both)), tuple(sorted(ins))))
    return tuple(rows)


def some_order_works(heights, days, done=()):
    """Whether the events of the days can be carried out in some order, by trying all that begin well."""
    if not days:
        return True
    (outs, ins), rest = days[0], days[1:]
    events = [("in", box) for box in ins] + [("out", box) for box in outs]
    return order_within(heights, events, rest, done)


def order_within(heights, left, rest, done):
    if not left:
        return some_order_works(heights, rest, done)
    for event in left:
        if event[0] == "out" and ("in", event[1]) in left:
            continue
        if carries(heights, done + (event,)):
            if order_within(heights, [other for other in left if other != event], rest, done + (event,)):
                return True
    return False


class TestDays(Checks):

    def check_order(self, days):
        """The order of each day, from its definition."""
        events, at = day_order(days), 0
        self.assertIs(type(events), tuple)
        goes = {box: day for day, (outs, _) in enumerate(days) for box in outs}
        for outs, ins in days:
            here = events[at:at + len(outs) + len(ins)]
            came = [box for word, box in events[:at] if word == "in"]
            first = [box for box in came[::-1] if box in outs]
            both = sorted(set(outs) & set(ins))
            others = sorted(set(ins) - set(outs), key=lambda box: (-goes.get(box, 10 ** 9), box))
            wanted = [("out", box) for box in first]
            wanted += [(word, box) for box in both for word in ("in", "out")]
            wanted += [("in", box) for box in others]
            self.assert_same(here, tuple(wanted))
            at += len(here)
        self.assertEqual(at, len(events))
        return events

    def test_if_any_order_works_this_one_does(self):
        draw, told = random.Random(310), []
        for heights in ((1, 1, 1), (2, 1, 1), (1, 3, 1), (2, 2, 1)):
            for at in range(36):
                days = drawn_days(draw, draw.randrange(1, 8), sum(heights), at % 2 == 0)
                events = self.check_order(days)
                told.append(some_order_works(heights, days))
                self.assertIs(carries(heights, events), told[-1])
        self.assertGreater(told.count(False), 4)
        self.assertGreater(told.count(True), 40)

    def test_the_example_and_ends(self):
        self.assert_same(day_order(DAYS)[2:], (("in", "a"), ("out", "a"), ("in", "d"), ("out", "d"), ("in", "e")))
        self.assert_same(day_order(days=DAYS)[:2], (("in", "b"), ("in", "c")))
        self.assert_same(day_order(()), ())
        self.assert_same(day_order((((), ()), ((), ()))), ())
        self.assertIsNone(need_days(()))
        self.assertIsNone(need_days(value=DAYS))
        self.assert_same(day_order((((), ("a", "b")), ((), ("c",)), (("a", "b", "c"), ()))), (
            ("in", "a"), ("in", "b"), ("in", "c"), ("out", "c"), ("out", "b"), ("out", "a")))

    def test_drawn_days(self):
        draw = random.Random(311)
        for _ in range(100):
            self.check_order(drawn_days(draw, draw.randrange(9), 5))
        lot = names(100)
        with self.within(10):
            self.check_order((((), lot), (lot, ())))
            self.check_order(((lot, lot),))
            self.check_order(tuple([((), (box,)) for box in lot] + [((box,), ()) for box in lot]))

    def test_what_is_no_row_of_days(self):
        for call in (need_days, day_order):
            for value, at in WRONG_DAYS:
                self.assert_told(InvalidOrder, at, call, value)

    def test_any_value(self):
        for call in (need_days, day_order):
            for value in any_values() + strange_papers():
                if value == ():
                    continue
                self.assert_told(InvalidOrder, -1 if not isinstance(value, tuple) else 0, call, value)
                if not is_day(value):
                    self.assert_told(InvalidOrder, 2, call, DAYS + (value,))
                if value != ():
                    self.assert_told(InvalidOrder, 1, call, (((), ("x",)), (value, ())) + DAYS)
                    if not is_lot(value):
                        self.assert_told(InvalidOrder, 1, call, (((), ("x",)), ((), value)) + DAYS)


def is_lot(value):
    return repr(value) in [repr(lot) for lot in ((), ("a",), ("in", "a"), ("a", "in"))] and list(value) == sorted(value)


def is_day(value):
    return repr(value) == repr(((), ()))


def plain_hold(heights, table, order, cover):
    found, given = [], dict(table)
    for further in range(cover, max(heights)):
        owes = sum(height - further for height in heights if height > further)
        row = [box for box in order if given[box] > further]
        found.append(order.index(row[len(row) - owes]))
    return min(found)


def good_orders(heights, table):
    """All orders in which all boxes of a table can go."""
    told = permutations([box for box, _ in table])
    return [order for order in told if goes_on(Yard(heights), table, tuple([("out", box) for box in order])) is None]


def some_tables(seed):
    """Pairs (heights, table) of all numbers of boxes that come."""
    draw, told = random.Random(seed), []
    for heights in ((1, 1, 1), (2, 1, 1), (1, 3, 1), (2, 2, 1), (4, 1, 1)):
        for boxes in range(sum(heights) + 1):
            tables = coming_tables(heights, tuple("abcdef"[:boxes]))
            told += [(heights, table) for table in draw.sample(tables, min(len(tables), 5))]
    return told


def onward_events(heights, table, order, length):
    """All events of at most such a length that go on behind a table, in which its boxes go in an order."""
    told = []
    waiting = [()]
    while waiting:
        events = waiting.pop()
        told.append(events)
        if len(events) == length:
            continue
        gone = [box for word, box in events if word == "out"]
        came = [box for word, box in events if word == "in"]
        left = [box for box in order if box not in gone]
        further = [("out", box) for box in left[:1] + [box for box in came if box not in gone]]
        if len(left) + len(came) - len([box for box in gone if box in came]) < sum(heights):
            further.append(("in", "new" + "abcdefghijkl"[len(came)]))
        for event in further:
            if goes_on(Yard(heights), table, events + (event,)) is None:
                waiting.append(events + (event,))
    return told


class TestHold(Checks):

    def test_from_the_definition(self):
        many = 0
        for heights, table in some_tables(312):
            yard, free = Yard(heights), sum(heights) - len(table)
            for order in good_orders(heights, table)[::7]:
                for cover in range(free, max(heights)):
                    hold = plain_hold(heights, table, order, cover)
                    self.assert_same(hold_of(yard, table, order, cover), hold)
                    lot = tuple([box for box, mark in table if mark > cover and order.index(box) >= hold])
                    self.assert_same(safe_boxes(yard, table, order, cover), lot)
                    many += 1
                for cover in (-1, free - 1, max(heights), 10 ** 30):
                    for call in (hold_of, safe_boxes):
                        self.assert_told(InvalidSize, "cover", call, yard, table, order, cover)
        self.assertGreater(many, 200)

    def test_standings_that_can_be_reached(self):
        for heights, table in some_tables(313)[::3]:
            free = sum(heights) - len(table)
            ends = plain_ends(heights, past_with(Yard(heights), table))[-1]
            given = dict(table)
            for standing in list(ends)[:40]:
                for cover in range(free, max(heights)):
                    self.assertTrue(all(given[lying(standing, place)] > cover for place in plain_places(heights, cover)))

    def test_what_is_safe(self):
        told = []
        for heights, length in (((2, 1, 1), 7), ((1, 2, 2), 6), ((1, 1, 3), 6)):
            for boxes in (sum(heights) - 2, sum(heights) - 1, sum(heights)):
                tables = coming_tables(heights, tuple("abcdef"[:boxes]))
                for table in tables[::max(1, len(tables) // 3)]:
                    ends = sorted(plain_ends(heights, past_with(Yard(heights), table))[-1])
                    for order in good_orders(heights, table)[::5][:4]:
                        told += self.check_safe(heights, table, order, ends, length)
        self.assertGreater(min(told.count(True), told.count(False)), 20)

    def check_safe(self, heights, table, order, ends, length):
        """What is safe, by trying all events; of each class one standing is taken."""
        rows, classes, told = onward_events(heights, table, order, length), {}, []
        for standing in ends:
            classes.setdefault(plain_deep(heights, standing), standing)
        safe = [standing for standing in classes.values() if safe_standing(Yard(heights), table, order, standing)]
        self.assert_same(count_safe(Yard(heights), table, order), len(safe))
        self.assertGreater(len(safe), 0)
        for standing in list(classes.values())[:6]:
            stuck = [events for events in rows if start_stuck(Yard(heights), standing, events) is not None]
            self.assertIs(standing in safe, not stuck)
            told.append(not stuck)
        return told

    def test_all_ways_to_fill_the_deep_places(self):
        for heights, table in some_tables(314):
            for order in good_orders(heights, table)[::11][:3]:
                many = count_safe(Yard(heights), table, order)
                self.assertGreater(many, 0)
                parts = set()
                draw = random.Random(315)
                for _ in range(60):
                    standing = drawn_standing(draw, Yard(heights), len(table))
                    named = dict(zip(boxes_in(standing), [box for box, _ in table]))
                    standing = tuple([tuple([named[box] for box in pile]) for pile in standing])
                    if safe_standing(Yard(heights), table, order, standing):
                        parts.add(plain_deep(heights, standing))
                self.assertLessEqual(len(parts), many)

    def test_the_example(self):
        table, order = marks(YARD, STUCK[:6]), ("b", "d", "e", "c")
        self.assert_same(hold_of(yard=YARD, table=table, order=order, cover=1), 3)
        self.assert_same(safe_boxes(yard=YARD, table=table, order=order, cover=1), ("c",))
        self.assert_same(count_safe(yard=YARD, table=table, order=order), 6)
        self.assert_same(safe_standing(yard=YARD, table=table, order=order, standing=(("c", "d"), ("e",), ("b",))), True)
        self.assert_same(safe_standing(YARD, table, order, (("b", "d"), ("e",), ("c",))), False)
        self.assert_same(safe_standing(YARD, table, order, (("d", "c"), ("e",), ("b",))), False)

    def test_few_boxes(self):
        for heights in ((1, 1, 1), (2, 1, 1), TALLEST):
            empty = ((),) * len(heights)
            self.assert_same(count_safe(Yard(heights), (), ()), 1)
            self.assert_same(safe_standing(Yard(heights), (), (), empty), True)
            for cover in (0, 1, 11, 12):
                self.assert_told(InvalidSize, "cover", hold_of, Yard(heights), (), (), cover)

    def test_wrong_tables_and_orders(self):
        calls = ((hold_of, (99,)), (safe_boxes, (99,)), (safe_standing, (((), (), ()),)), (count_safe, ()))
        for call, rest in calls:
            for value, at in WRONG_TABLES:
                self.assert_told(InvalidOrder, at, call, YARD, value, None, *rest)
            bad = (("a", 1),) + FULL[1:]
            self.assert_told(Refused, "marks", call, YARD, tuple([(box, 2) for box in "abcd"]), None, *rest)
            self.assert_told(Refused, "marks", call, YARD, bad, (), *rest)
            for order, at in ((None, -1), (["a", "b", "c", "d"], -1), ("abcd", -1), ((), 0), (("a", "b"), 2), (("a", "a"), 1),
                              (("a", "x"), 1), (("a", "b", "c", "d", "e"), 4), (("a", True), 1), (("a", ["b"]), 1),
                              (("d", "c", "b", "d"), 3), (("a", "b", "c", "d", "a"), 4)):
                self.assert_told(InvalidOrder, at, call, YARD, FULL, order, *rest)
            for value in any_values() + strange_papers():
                at = -1 if not isinstance(value, tuple) else 1 if value == ("a",) else 0
                self.assert_told(InvalidOrder, at, call, YARD, FULL, value, *rest)
                if value != "b":
                    self.assert_told(InvalidOrder, 1, call, YARD, FULL, ("a", value), *rest)

    def test_orders_that_cannot_be_done(self):
        table = marks(YARD, STUCK[:8])
        self.assert_same(table, (("c", 2), ("d", 1), ("e", 1), ("f", 1)))
        for order in (("c", "d", "e", "f"), ("c", "f", "e", "d")):
            for call, rest in ((hold_of, (99,)), (safe_boxes, (-1,)), (safe_standing, (((), (), ()),)), (count_safe, ())):
                self.assert_told(Refused, "order", call, YARD, table, order, *rest)
        self.assertGreater(count_safe(YARD, table, ("d", "c", "e", "f")), 0)

    def test_standings_first_and_their_boxes_last(self):
        for value in (None, (), FULL, tuple([(box, 2) for box in "abcd"])):
            self.assert_standing_first_of(value)
        order = tuple("abcd")
        for standing in (((), (), ()), (("a", "b"), ("c",), ()), (("a", "b"), ("c",), ("e",))):
            self.assert_told(Refused, "boxes", safe_standing, YARD, FULL, order[::-1], standing)

    def assert_standing_first_of(self, table):
        for value, at in WRONG_STANDINGS:
            self.assert_told(InvalidStanding, at, safe_standing, YARD, table, None, value)

    def test_limits(self):
        draw = random.Random(316)
        with self.within(30):
            for heights, events in ((TALLEST, 200), ((12, 12, 12), 200), ((1,) * 12, 200), ((12, 1, 1), 60)):
                yard = Yard(heights)
                timetable = busy_timetable(draw, sum(heights), events, sum(heights) - 3)
                while goes_on(yard, (), timetable) is not None:
                    timetable = timetable[:goes_on(yard, (), timetable)]
                table = marks(yard, timetable)
                order, left = [], dict(table)
                # The boxes with the least marks go first.
                order = tuple(sorted(left, key=lambda box: (left[box], box)))
                self.assertGreater(count_safe(yard, table, order), 0)
                free = sum(heights) - len(table)
                for cover in range(free, max(heights)):
                    self.assertIn(hold_of(yard, table, order, cover), range(len(table)))
                    self.assertGreater(len(safe_boxes(yard, table, order, cover)), 0)


if __name__ == "__main__":
    unittest.main()
