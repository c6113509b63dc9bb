"""Point 23: mirrored timetables and papers, and yards that are emptied."""

import unittest

from staysdeep.court import Dealt, Short, check_court, court, dealings_count, shorts, stuck_event
from staysdeep.errors import Refused
from staysdeep.mirrors import emptied, mirror, mirror_paper
from staysdeep.timetables import need_timetable
from staysdeep.yards import Yard
from tests.helpers import STUCK, TALLEST, Checks, all_timetables, names, plain_states, plain_stuck, plain_table
from tests.test_court import some_busy


def gone_to_the_end(timetable):
    """The timetable with a going of each box that stays, the greatest name first."""
    return timetable + tuple([("out", box) for box in sorted(plain_states(timetable)[-1], reverse=True)])


class TestMirror(Checks):

    def test_events(self):
        self.assert_same(mirror(()), ())
        self.assert_same(mirror((("in", "a"), ("out", "a"))), (("in", "a"), ("out", "a")))
        timetable = (("in", "a"), ("in", "b"), ("out", "a"), ("in", "c"), ("out", "c"), ("out", "b"))
        turned = (("in", "b"), ("in", "c"), ("out", "c"), ("in", "a"), ("out", "b"), ("out", "a"))
        self.assert_same(mirror(timetable), turned)
        self.assert_same(mirror(timetable=turned), timetable)

    def test_boxes_that_stay(self):
        for timetable in ((("in", "a"),), (("in", "a"), ("out", "a"), ("in", "b")), STUCK):
            self.assert_told(Refused, "boxes", mirror, timetable)
            self.assert_told(Refused, "boxes", mirror_paper, timetable, Dealt(()))
            self.assert_told(Refused, "boxes", mirror_paper, timetable, Short(0, (0, 0), ()))

    def test_it_can_be_carried_out_exactly_if_the_timetable_can(self):
        told = []
        for heights, timetable in some_busy(30, 12):
            whole = gone_to_the_end(timetable)
            yard, turned = Yard(heights), mirror(whole)
            need_timetable(yard, turned)
            self.assertEqual(mirror(turned), whole)
            told.append(stuck_event(yard, whole) is None)
            self.assertIs(plain_stuck(heights, turned) is None, told[-1])
            self.assert_same(dealings_count(yard, turned), dealings_count(yard, whole))
            self.assertEqual(
                sorted(mirror_paper(whole, short).stretch for short in shorts(yard, whole)),
                sorted(short.stretch for short in shorts(yard, turned)),
            )
        self.assertEqual(set(told), {True, False})


class TestMirrorPaper(Checks):

    def test_papers_of_the_court(self):
        for heights, timetable in some_busy(31, 12):
            whole = gone_to_the_end(timetable)
            yard, turned, paper = Yard(heights), mirror(whole), court(Yard(heights), whole)
            other = mirror_paper(whole, paper)
            self.assertIs(type(other), type(paper))
            self.assertTrue(check_court(yard, turned, other))
            self.assertEqual(mirror_paper(turned, other), paper)

    def test_papers_of_any_kind(self):
        timetable = (("in", "a"), ("in", "b"), ("out", "a"), ("out", "b"))
        short = mirror_paper(timetable, Short(7, (0, 1), ("x", "a")))
        self.assert_same((short.cover, short.stretch, short.stayers), (7, (3, 4), ("x", "a")))
        rows = (((1, 0), (2, 3), "b"), ((0, 0), (0, 1), "b"), ((0, 0), (3, 4), "a"))
        turned = (((0, 0), (0, 1), "a"), ((0, 0), (3, 4), "b"), ((1, 0), (1, 2), "b"))
        self.assert_same(mirror_paper(timetable, Dealt(rows)).table, turned)
        self.assert_same(mirror_paper(timetable=timetable, paper=Dealt(rows[::-1])).table, turned)
        self.assert_same(mirror_paper(timetable, mirror_paper(timetable, Dealt(rows))).table, tuple(sorted(rows)))
        self.assert_same(mirror_paper(timetable, Dealt(rows[:1] * 2)).table, (((1, 0), (1, 2), "b"),) * 2)
        self.assert_same(mirror_paper((), Dealt(())).table, ())

    def test_wrong_papers_stay_wrong(self):
        told = []
        for heights, timetable in some_busy(32, 8):
            yard, whole = Yard(heights), gone_to_the_end(timetable)
            paper = court(yard, whole)
            if isinstance(paper, Dealt):
                boxes = sorted({row[2] for row in paper.table})
                for at, (place, stretch, box) in enumerate(paper.table):
                    rows = list(paper.table)
                    rows[at] = (place, stretch, boxes[boxes.index(box) - 1])
                    told.append(check_court(yard, whole, Dealt(tuple(rows))))
                    turned = mirror_paper(whole, Dealt(tuple(rows)))
                    self.assertIs(check_court(yard, mirror(whole), turned), told[-1])
        self.assertEqual(set(told), {True, False})


class TestEmptied(Checks):

    def test_the_order_of_the_goings(self):
        told = []
        for heights, timetable in some_busy(33, 12):
            yard, found = Yard(heights), emptied(Yard(heights), timetable)
            left, goings = plain_states(timetable)[-1], found[len(timetable):]
            self.assertEqual(found[:len(timetable)], timetable)
            told.append(stuck_event(yard, timetable) is None)
            covers = {}
            if told[-1]:
                for (stack, level), stretch, box in plain_table(heights, timetable):
                    if stretch[1] == len(timetable):
                        covers[box] = heights[stack] - level
            wanted = sorted(left, key=lambda box: (covers.get(box, 0), box))
            self.assert_same(goings, tuple([("out", box) for box in wanted]))
            self.assertIs(stuck_event(yard, found) is None, told[-1])
            self.assertIs(plain_stuck(heights, found) is None, told[-1])
        self.assertEqual(set(told), {True, False})

    def test_it_can_be_carried_out_exactly_if_the_timetable_can(self):
        for timetable in all_timetables(4, 7):
            found = emptied(Yard((2, 1, 1)), timetable)
            self.assertEqual(plain_states(found)[-1], set())
            self.assertIsNone(plain_stuck((2, 1, 1), found))

    def test_the_example(self):
        yard = Yard((2, 1, 1))
        goings = (("out", "d"), ("out", "e"), ("out", "f"), ("out", "c"))
        self.assert_same(emptied(yard, STUCK[:8]), STUCK[:8] + goings)
        self.assert_same(emptied(yard=yard, timetable=STUCK), STUCK + (("out", "d"), ("out", "e"), ("out", "f")))
        self.assert_same(emptied(yard, ()), ())
        self.assert_same(emptied(yard, (("in", "a"), ("out", "a"))), (("in", "a"), ("out", "a")))

    def test_not_dealt(self):
        # By name alone, though one of them has a place in some other order.
        heights = (2, 1, 1)
        timetable = tuple([(word, box.translate(str.maketrans("def", "zyx"))) for word, box in STUCK])
        self.assert_same(emptied(Yard(heights), timetable)[-3:], (("out", "x"), ("out", "y"), ("out", "z")))

    def test_full_yard(self):
        lot = names(144)
        timetable = tuple([("in", box) for box in reversed(lot)])
        with self.within(5):
            found = emptied(Yard(TALLEST), timetable)
            self.assertIsNone(stuck_event(Yard(TALLEST), found))
            self.assertEqual(len(found), 288)
            self.assertEqual(mirror(mirror(found)), found)

    def test_wrong_timetables(self):
        self.assert_timetable_first(emptied)


if __name__ == "__main__":
    unittest.main()
