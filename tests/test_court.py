"""Points 20 to 22: what is dealt, what is short, right papers, their number, and the stuck event."""

import random
import unittest

from staysdeep.court import Dealt, Short, check_court, court, dealings_count, kept_at, shorts, stuck_event
from staysdeep.standings import deep_boxes
from staysdeep.stretches import balances
from staysdeep.yards import Yard, deep_count
from tests.helpers import (
    STUCK, TALLEST, Checks, all_tables, all_timetables, any_values, busy_timetable, is_right_table, names, plain_ends,
    plain_places, plain_states, plain_stayers, plain_stretches, plain_stuck, plain_table, some_timetables,
    strange_papers,
)

BUSY_YARDS = ((2, 1, 1), (1, 3, 1), (2, 2, 1), (4, 1, 1), (3, 2, 1), (2, 2, 2), (1, 1, 1, 2))


def some_busy(seed, many, yards=BUSY_YARDS, events=14):
    """Pairs of heights and timetables that keep deep places deep for a long time."""
    draw = random.Random(seed)
    told = []
    for heights in yards:
        for at in range(many):
            low = sum(heights) - 1 - at % max(heights)
            told.append((heights, busy_timetable(draw, sum(heights), draw.randrange(6, events + 1), low)))
    return told


def plain_shorts(heights, timetable):
    told = []
    for cover in range(max(heights)):
        needs = sum(len(plain_places(heights, greater)) for greater in range(cover, max(heights)))
        for first, last in plain_stretches(sum(heights), timetable, cover):
            stay = plain_stayers(timetable, first, last)
            if len(stay) < needs:
                told.append((cover, (first, last), stay))
    return told


def shown(paper):
    """A paper as plain values."""
    if isinstance(paper, Short):
        return paper.cover, paper.stretch, paper.stayers
    return paper.table


class TestPapers(Checks):

    def test_equality(self):
        one = Short(1, (3, 9), ("a",))
        self.assertTrue(one == Short(1, (3, 9), ("a",)))
        for other in (Short(0, (3, 9), ("a",)), Short(1, (3, 8), ("a",)), Short(1, (3, 9), ())):
            self.assertTrue(one != other)
            self.assertFalse(one == other)
        dealt = Dealt((((0, 0), (1, 2), "a"),))
        self.assertTrue(dealt == Dealt((((0, 0), (1, 2), "a"),)))
        self.assertFalse(dealt == Dealt((((0, 0), (1, 2), "b"),)))
        self.assertTrue(Dealt(()) == Dealt(()))
        for value in any_values() + [(1, (3, 9), ("a",)), (((0, 0), (1, 2), "a"),)]:
            self.assertFalse(one == value)
            self.assertFalse(dealt == value)
            self.assertTrue(dealt != value)

    def test_arguments_are_kept_as_they_are(self):
        for value in any_values():
            self.assertIs(Dealt(value).table, value)
            self.assertIs(Dealt(table=value).table, value)
            short = Short(value, [value], (value,))
            self.assertIs(short.cover, value)
            self.assertIs(short.stretch[0], value)
            self.assertIs(Short(stayers=value, stretch=1, cover=2).stayers, value)
        self.assertEqual(vars(Short(1, 2, 3)), {"cover": 1, "stretch": 2, "stayers": 3})
        self.assertEqual(vars(Dealt(1)), {"table": 1})
        self.assertIn("__eq__", vars(Short))
        self.assertIn("__eq__", vars(Dealt))


class TestCourt(Checks):

    def check_court_of(self, heights, timetable):
        """Shorts, dealt tables and the stuck event of a timetable, from the definitions."""
        yard, wanted = Yard(heights), plain_shorts(heights, timetable)
        found, paper = shorts(yard, timetable), court(yard, timetable)
        self.assertIs(type(found), tuple)
        self.assert_same([shown(short) for short in found], wanted)
        if wanted:
            self.assertIs(type(paper), Short)
            self.assert_same(shown(paper), wanted[0])
        else:
            self.assertIs(type(paper), Dealt)
            self.assert_same(paper.table, plain_table(heights, timetable))
            if len(paper.table) < 200:
                self.assertTrue(is_right_table(heights, timetable, paper.table))
        self.assertTrue(check_court(yard, timetable, paper))
        return paper

    def test_all_short_timetables(self):
        for heights, length in (((1, 1, 1), 8), ((2, 1, 1), 9), ((1, 1, 3), 7)):
            for timetable in all_timetables(sum(heights), length):
                paper = self.check_court_of(heights, timetable)
                stuck = plain_stuck(heights, timetable)
                self.assert_same(stuck_event(Yard(heights), timetable), stuck)
                self.assertIs(type(paper) is Dealt, stuck is None)

    def test_a_timetable_can_be_carried_out_exactly_if_it_is_dealt(self):
        bad = 0
        for heights, timetable in some_busy(20, 30):
            paper = self.check_court_of(heights, timetable)
            stuck = plain_stuck(heights, timetable)
            self.assert_same(stuck_event(Yard(heights), timetable), stuck)
            self.assertIs(type(paper) is Dealt, stuck is None)
            bad += stuck is not None
        self.assertGreater(bad, 40)

    def test_ways_to_lie_as_dealt(self):
        for heights, timetable in some_busy(21, 4):
            paper = court(Yard(heights), timetable)
            if isinstance(paper, Dealt):
                for state, ends in enumerate(plain_ends(heights, timetable)):
                    kept = kept_at(paper, state)
                    self.assertTrue(any(deep_boxes(Yard(heights), standing) == kept for standing in ends))

    def test_who_is_dealt(self):
        yard = Yard((2, 1, 1))
        comings = tuple([("in", box) for box in "dacb"])
        # Those that stay to the end are alike, so the least names are taken.
        self.assert_same(court(yard, comings).table, (
            ((0, 0), (3, 4), "a"), ((0, 1), (4, 4), "b"), ((1, 0), (4, 4), "c"), ((2, 0), (4, 4), "d"),
        ))
        going = comings + (("out", "b"), ("out", "a"))
        self.assert_same(court(yard, going).table, (
            ((0, 0), (3, 5), "c"), ((0, 1), (4, 4), "d"), ((1, 0), (4, 4), "a"), ((2, 0), (4, 4), "b"),
        ))
        # In the second stretch the box that came last of all is there, too, and stays as long as the others.
        again = comings + (("out", "d"), ("out", "a"), ("in", "e"))
        self.assert_same([row for row in court(yard, again).table if row[0] == (0, 0)], [
            ((0, 0), (3, 5), "c"), ((0, 0), (7, 7), "b"),
        ])

    def test_no_events_and_one_box(self):
        for heights in ((1, 1, 1), (2, 1, 1), TALLEST):
            for timetable in ((), (("in", "a"),), (("in", "a"), ("out", "a"))):
                self.assert_same(shorts(Yard(heights), timetable), ())
                self.assert_same(shown(court(Yard(heights), timetable)), ())
                self.assert_same(stuck_event(Yard(heights), timetable), None)
                self.assert_same(dealings_count(Yard(heights), timetable), 1)

    def test_the_overview(self):
        short = court(Yard((2, 1, 1)), STUCK)
        self.assert_same((short.cover, short.stretch, short.stayers), (1, (3, 9), ()))
        self.assertEqual(court(Yard((2, 1, 1)), STUCK), Short(1, (3, 9), ()))
        self.assertEqual(shorts(yard=Yard((2, 1, 1)), timetable=STUCK), (Short(1, (3, 9), ()),))
        self.assertIs(type(court(Yard((2, 1, 1)), STUCK[:8])), Dealt)
        self.assert_same(stuck_event(Yard((2, 1, 1)), STUCK), 8)

    def test_long_timetables(self):
        kinds = []
        for yard, timetable in some_timetables(22, 30):
            paper = self.check_court_of(yard.heights, timetable)
            kinds.append(type(paper))
            stuck = stuck_event(yard, timetable)
            self.assertIs(stuck is None, type(paper) is Dealt)
            if stuck is not None:
                self.assertEqual(timetable[stuck][0], "out")
                self.assertEqual(shorts(yard, timetable[:stuck]), ())
                self.assertNotEqual(shorts(yard, timetable[:stuck + 1]), ())
        self.assertEqual(set(kinds), {Dealt, Short})

    def test_what_is_said_of_the_first_short(self):
        for yard, timetable in some_timetables(23, 40):
            found = shorts(yard, timetable)
            self.assertEqual(len(found), len([row for row in balances(yard, timetable) if row[2] < 0]))
            for short in found[1:]:
                first, last = found[0].stretch
                self.assertFalse(first <= short.stretch[0] and short.stretch[1] <= last)

    def test_wrong_timetables(self):
        for call in (shorts, court, dealings_count, stuck_event):
            self.assert_timetable_first(call)
        self.assert_timetable_first(check_court, Dealt(()))
        self.assert_timetable_first(check_court, None)

    def test_full_yards_at_the_limits(self):
        lot = names(200)
        comings = tuple([("in", box) for box in lot[:144]])
        turns = tuple([event for at in range(28) for event in (("out", lot[143 + at]), ("in", lot[144 + at]))])
        away = tuple([("out", box) for box in lot[:56]])
        with self.within(10):
            for timetable in (comings, comings + turns, comings + away):
                self.check_court_of(TALLEST, timetable)
                self.assert_same(stuck_event(Yard(TALLEST), timetable), None)
            # One more event than the yard can do: all boxes of the stretch have gone but those that are owed to it.
            yard = Yard((12, 1, 1))
            timetable = tuple([("in", box) for box in lot[:14]])
            for at in range(90):
                timetable += (("out", lot[at]), ("in", lot[14 + at]))
            self.assert_same(stuck_event(yard, timetable), 14 + 2 * 2)
            self.check_court_of((12, 1, 1), timetable)


class TestCheckCourt(Checks):

    def test_all_right_tables(self):
        seen = []
        for heights, timetable in some_busy(24, 12, events=10):
            if dealings_count(Yard(heights), timetable) <= 600:
                tables = all_tables(heights, timetable)
                seen.append(len(tables))
                self.assert_same(dealings_count(Yard(heights), timetable), len(tables))
                for table in tables[:40]:
                    self.assertIs(check_court(Yard(heights), timetable, Dealt(table)), True)
        self.assertIn(0, seen)
        self.assertGreater(max(seen), 100)

    def test_tables_changed_a_little(self):
        draw, told = random.Random(25), []
        for heights, timetable in some_busy(25, 12, events=10):
            yard, paper = Yard(heights), court(Yard(heights), timetable)
            if isinstance(paper, Short) or not paper.table:
                continue
            boxes = sorted({box for _, box in timetable}) + ["x"]
            for _ in range(20):
                at, table = draw.randrange(len(paper.table)), list(paper.table)
                place, stretch, box = table[at]
                table[at] = draw.choice([
                    (place, stretch, draw.choice(boxes)), (place, (stretch[0], stretch[1] + draw.choice((-1, 1))), box),
                    (place, (stretch[0] - 1, stretch[1]), box), ((place[0], place[1] + 1), stretch, box),
                ])
                right = is_right_table(heights, timetable, tuple(table))
                told.append(check_court(yard, timetable, Dealt(tuple(table))))
                self.assertIs(told[-1], right)
        self.assertEqual(set(told), {True, False})

    def test_tables_of_another_form(self):
        yard, timetable = Yard((2, 1, 1)), STUCK[:8]
        table = court(yard, timetable).table
        first, rest = table[0], table[1:]
        wrong = [
            list(table), rest, table[::-1], table + table[-1:], (first,) + table, table[:-1], (), None, table + ((),),
            (list(first),) + rest, (first[:2],) + rest, (first + ("a",),) + rest, (None,) + rest,
            ((list(first[0]),) + first[1:],) + rest, ((first[0], list(first[1]), first[2]),) + rest,
            (((False, False),) + first[1:],) + rest, ((first[0], first[1], [first[2]]),) + rest,
            ((first[0], first[1], None),) + rest, ((first[0], first[1], Yard((1, 1, 1))),) + rest,
            ((first[0][:1],) + first[1:],) + rest, ((first[0] + (0,),) + first[1:],) + rest,
            (rest[0], first) + rest[1:],
        ]
        self.assertIs(check_court(yard, timetable, Dealt(table)), True)
        for value in wrong:
            self.assertIs(check_court(yard, timetable, Dealt(value)), False)
        self.assertIs(check_court(yard, timetable, table), False)
        self.assertIs(check_court(yard, (("in", "a"), ("in", "b"), ("in", "c")), Dealt((((0, 0), (3, 3), "a"),))), True)
        self.assertIs(check_court(yard, (("in", "a"), ("in", "b"), ("in", "c")), Dealt((((0, 0), (3, True), "a"),))), False)

    def test_a_bool_in_a_stretch(self):
        yard = Yard((3, 1, 1))
        timetable = (("in", "a"), ("in", "b"), ("in", "c"))
        self.assertIs(check_court(yard, timetable, Dealt((((0, 0), (3, 3), "b"),))), True)
        for place in ((0, False), (False, 0)):
            self.assertIs(check_court(yard, timetable, Dealt(((place, (3, 3), "b"),))), False)
        one = Yard((1, 1, 1))
        full = timetable + (("out", "a"),)
        rows = [((stack, 0), (3, 3), box) for stack, box in enumerate("cab")]
        self.assertIs(check_court(one, full, Dealt(tuple(rows))), True)
        self.assertIs(check_court(one, full, Dealt(tuple(rows[:1] + [((True, 0), (3, 3), "a")] + rows[2:]))), False)

    def test_shorts(self):
        told = 0
        for heights, timetable in some_busy(26, 12):
            yard, wanted = Yard(heights), plain_shorts(heights, timetable)
            for cover in range(-1, max(heights) + 2):
                needs = sum(height - cover for height in heights if height > cover)
                for stretch in plain_stretches(sum(heights), timetable, cover) + ((0, 0), (1, 2)):
                    stay = plain_stayers(timetable, *stretch) if stretch[1] <= len(timetable) else ()
                    right = (cover, stretch, stay) in wanted
                    told += right
                    self.assertIs(check_court(yard, timetable, Short(cover, stretch, stay)), right, needs)
                    self.assertIs(check_court(yard, timetable, Short(cover, stretch, stay + ("zzz",))), False)
        self.assertGreater(told, 10)

    def test_shorts_of_another_form(self):
        yard = Yard((2, 1, 1))
        self.assertIs(check_court(yard, STUCK, Short(1, (3, 9), ())), True)
        for value in (Short(True, (3, 9), ()), Short("1", (3, 9), ()), Short(1, [3, 9], ()), Short(1, (3, 9), []),
                      Short(1, (3, 9), None), Short(1, (3, 8), ()), Short(1, (3,), ()), Short(1, (3, 9, 9), ()),
                      Short(0, (4, 4), ("a", "b", "c", "d")), Short(-1, (3, 9), ()), Short(2, (0, 9), ()),
                      Short(1, None, ()), Short(10 ** 30, (0, 9), ()), Short(1, (3, 9), ("a",)), Short(None, (3, 9), ())):
            self.assertIs(check_court(yard, STUCK, value), False)

    def test_stayers_in_another_order(self):
        yard = Yard((4, 1, 1))
        timetable = tuple([("in", box) for box in "abcdef"]) + (("out", "c"), ("in", "g"), ("out", "d"), ("in", "h"))
        timetable += (("out", "e"), ("in", "i"), ("out", "f"), ("in", "j"))
        short = court(yard, timetable)
        self.assertEqual(short, Short(1, (5, 14), ("a", "b")))
        self.assertIs(check_court(yard, timetable, short), True)
        self.assertIs(check_court(yard, timetable, Short(1, (5, 14), ("b", "a"))), False)
        self.assertIs(check_court(yard, timetable, Short(1, (5, 14), ("a", "a", "b"))), False)

    def test_any_value(self):
        yard = Yard((2, 1, 1))
        for value in any_values() + strange_papers():
            self.assertIs(check_court(yard, STUCK, value), False)
        for value in any_values():
            self.assertIs(check_court(yard, (), value), isinstance(value, Dealt) and value.table == ())
            for paper in (Dealt(value), Dealt((value,)), Short(value, (3, 9), ()), Short(1, value, ()), Short(1, (3, 9), value)):
                right = paper == Short(1, (3, 9), ()) and not isinstance(value, bool)
                self.assertIs(check_court(yard, STUCK, paper), right)


class TestKeptAt(Checks):

    def test_kept_boxes(self):
        for heights, timetable in some_busy(27, 6):
            paper = court(Yard(heights), timetable)
            if isinstance(paper, Dealt):
                counts = [len(there) for there in plain_states(timetable)]
                for state in range(-2, len(timetable) + 3):
                    wanted = [(place, box) for place, pair, box in paper.table if state in range(pair[0], pair[1] + 1)]
                    self.assert_same(kept_at(paper, state), tuple(sorted(wanted)))
                    if 0 <= state <= len(timetable):
                        self.assertEqual(len(wanted), deep_count(Yard(heights), counts[state]))

    def test_in_any_order(self):
        rows = (((1, 0), (2, 3), "a"), ((0, 1), (3, 3), "c"), ((0, 0), (1, 2), "b"))
        self.assert_same(kept_at(Dealt(rows), 3), (((0, 1), "c"), ((1, 0), "a")))
        self.assert_same(kept_at(Dealt(rows[::-1]), 2), (((0, 0), "b"), ((1, 0), "a")))
        self.assert_same(kept_at(dealt=Dealt(rows), state=1), (((0, 0), "b"),))
        for state in (0, -1, 4, 10 ** 30):
            self.assert_same(kept_at(Dealt(rows), state), ())
        self.assert_same(kept_at(Dealt(()), 0), ())


class TestCounts(Checks):

    def test_the_example(self):
        self.assert_same(dealings_count(Yard((2, 1, 1)), STUCK[:4]), 18)
        self.assert_same(dealings_count(Yard((2, 1, 1)), STUCK), 0)

    def test_none_exactly_if_some_are_short(self):
        for heights, timetable in some_busy(28, 20):
            none = dealings_count(Yard(heights), timetable) == 0
            self.assertIs(none, len(shorts(Yard(heights), timetable)) > 0)

    def test_fewer_left_than_the_greater_cover_is_owed(self):
        # Fewer stay than are owed to the next greater cover, too: the factor is 0, and not a product of what is below 0.
        yard = Yard((3, 1, 1))
        timetable = tuple([("in", box) for box in "abcde"])
        for old, new in zip("abcde", "fghij"):
            timetable += (("out", old), ("in", new))
        self.assertEqual([short.stayers for short in shorts(yard, timetable)], [(), ()])
        self.assert_same(dealings_count(yard, timetable), 0)

    def test_great_numbers(self):
        comings = tuple([("in", box) for box in names(144)])
        self.assertEqual(dealings_count(Yard(TALLEST), comings) % (10 ** 6), 0)
        self.assertGreater(dealings_count(Yard(TALLEST), comings), 10 ** 200)


if __name__ == "__main__":
    unittest.main()
