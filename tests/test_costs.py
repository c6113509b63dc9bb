"""Point 39: how many starts and ends there are, and how few deep places need another box."""

import unittest
from functools import lru_cache

from staysdeep.costs import change_bound, count_ends, count_starts, least_changes, mended_start, tight_covers
from staysdeep.errors import InvalidSize, InvalidTimetable
from staysdeep.standings import count_standings, need_standing
from staysdeep.starts import start_stuck
from staysdeep.yards import Yard, deep_count
from tests.helpers import (
    TALLEST, WRONG_TIMETABLES, all_standings, closed, names, plain_ends, plain_places, plain_stayers,
    plain_stretches,
)
from tests.onward import OnwardChecks, boxes_in, lying, some_onward, tall_cases
from tests.test_starts import EVENTS, STANDING, WRONG_EVENTS, YARD

CALLS = (count_ends, least_changes, mended_start, tight_covers)


@lru_cache(maxsize=None)
def good_starts(heights, lot, events):
    """All standings of a lot from which a plain search carries the events out."""
    left, good = dict.fromkeys(all_standings(heights, lot)), []
    while left:
        alike = closed(heights, [next(iter(left))])
        if plain_ends(heights, events, next(iter(left)))[-1]:
            good.extend(sorted(alike))
        left = {standing: None for standing in left if standing not in alike}
    return good


def start_lots(heights, standing, events):
    """For each cover that is deep at the start the stayers of its stretch, and how many more they are than owed."""
    boxes, told = boxes_in(standing), {}
    for cover in range(sum(heights) - len(boxes), max(heights)):
        stretch = plain_stretches(sum(heights), events, cover, boxes)[0]
        stay = plain_stayers(events, *stretch, boxes)
        told[cover] = (stay, len(stay) - sum(height - cover for height in heights if height > cover))
    return told


def plain_bound(heights, standing, events, covers):
    lots = start_lots(heights, standing, events)
    deep, clear = 0, 0
    for cover, (stay, _) in lots.items():
        for place in plain_places(heights, cover):
            box = lying(standing, place)
            row = [further for further in lots if further > cover and box in lots[further][0]]
            deep += 1
            clear += box in stay and not set(row) & set(covers)
    return deep - clear - sum(lots[cover][1] for cover in covers)


def all_lots(rows):
    told = [()]
    for thing in rows:
        told += [lot + (thing,) for lot in told]
    return told


class TestCounts(OnwardChecks):

    def test_starts(self):
        told = []
        for heights, standing, events in some_onward(240, 25, length=9):
            lot = boxes_in(standing)
            wanted = len(good_starts(heights, lot, events))
            self.assert_same(count_starts(Yard(heights), lot, events), wanted)
            told.append(wanted)
        self.assertGreater(told.count(0), 5)
        self.assertGreater(len([many for many in told if many]), 60)

    def test_ends(self):
        told = []
        for heights, standing, events in some_onward(241, 45, length=10):
            wanted = len(plain_ends(heights, events, standing)[-1])
            self.assert_same(count_ends(Yard(heights), standing, events), wanted)
            told.append(wanted)
        self.assertGreater(told.count(0), 5)
        self.assertGreater(len([many for many in told if many]), 60)

    def test_without_events(self):
        for heights in ((1, 1, 1), (2, 1, 1), (12, 1, 1), (3, 3, 3)):
            for boxes in range(min(5, sum(heights)) + 1):
                lot = tuple("abcdef"[:boxes])
                self.assert_same(count_starts(Yard(heights), lot, ()), count_standings(Yard(heights), boxes))
        self.assert_same(count_ends(YARD, STANDING, ()), 6)
        self.assert_same(count_ends(YARD, ((), (), ()), ()), 1)
        self.assert_same(count_starts(YARD, (), ()), 1)

    def test_the_example(self):
        self.assert_same(count_starts(yard=YARD, lot=("a", "b", "c"), events=EVENTS), 12)
        self.assert_same(least_changes(YARD, STANDING, EVENTS), 1)
        self.assert_same(count_ends(yard=YARD, standing=STANDING, events=EVENTS), 0)
        self.assert_same(count_ends(YARD, STANDING, (("in", "d"), ("out", "c"))), 6)

    def test_wrong_lots_and_events(self):
        self.assert_told(InvalidSize, "boxes", count_starts, YARD, tuple("abcde"), None)
        self.assert_told(InvalidSize, "boxes", count_starts, YARD, names(144), ())
        for value, at in WRONG_EVENTS:
            self.assert_told(InvalidTimetable, at, count_starts, YARD, ("a", "b", "c"), value)
        for value, at in WRONG_TIMETABLES:
            self.assert_told(InvalidTimetable, at, count_starts, Yard((1, 1, 1)), (), value)

    def test_wrong_standings_and_events(self):
        for call, rest in [(call, ()) for call in CALLS] + [(change_bound, ((99,),))]:
            self.assert_standing_first(call, None, *rest)
            for value, at in WRONG_EVENTS:
                self.assert_told(InvalidTimetable, at, call, YARD, STANDING, value, *rest)


class TestChanges(OnwardChecks):

    def check_changes(self, heights, standing, events, fewest):
        """What there is of changes, where so few are needed; None if there is no start."""
        yard = Yard(heights)
        self.assert_same(least_changes(yard, standing, events), fewest)
        mended, covers = mended_start(yard, standing, events), tight_covers(yard, standing, events)
        if fewest is None:
            self.assertIs(mended, None)
            self.assertIs(covers, None)
            return
        need_standing(yard, mended)
        self.assertIs(type(mended), tuple)
        self.assertEqual(boxes_in(mended), boxes_in(standing))
        self.assertEqual(self.count_unlike(heights, standing, mended), fewest)
        self.assertIsNone(start_stuck(yard, mended, events))
        self.assertIs(type(covers), tuple)
        self.assertEqual(covers, tuple(sorted(set(covers))))
        self.assertLessEqual(set(covers), set(start_lots(heights, standing, events)))
        self.assert_same(change_bound(yard, standing, events, covers), fewest)
        self.assertEqual(plain_bound(heights, standing, events, covers), fewest)

    def test_what_a_plain_search_finds(self):
        told = []
        for heights, standing, events in some_onward(242, 30, length=9):
            good = good_starts(heights, boxes_in(standing), events)
            unlike = [self.count_unlike(heights, standing, start) for start in good]
            told.append(min(unlike, default=None))
            self.check_changes(heights, standing, events, told[-1])
            if good:
                self.assertIn(mended_start(Yard(heights), standing, events), good)
        for many in (None, 0, 1, 2):
            self.assertGreater(told.count(many), 2, many)

    def test_bounds(self):
        for heights, standing, events in some_onward(243, 20, ((2, 1, 1), (1, 3, 1), (2, 2, 1), (3, 1, 2), (4, 1, 1)), 10):
            fewest = least_changes(Yard(heights), standing, events)
            for covers in all_lots(sorted(start_lots(heights, standing, events))):
                bound = change_bound(Yard(heights), standing, events, covers)
                self.assert_same(bound, plain_bound(heights, standing, events, covers))
                if fewest is not None:
                    self.assertLessEqual(bound, fewest)

    def test_tall_yards(self):
        told = []
        for heights, standing, events in tall_cases(244, 120):
            fewest = least_changes(Yard(heights), standing, events)
            self.check_changes(heights, standing, events, fewest)
            if fewest is not None:
                # What the best bound of all says, small numbers of covers apart.
                covers = sorted(start_lots(heights, standing, events))
                for lot in [(), tuple(covers)] + [(cover,) for cover in covers]:
                    self.assertLessEqual(change_bound(Yard(heights), standing, events, lot), fewest)
                told.append(fewest)
        self.assertGreater(len(set(told)), 5)
        self.assertGreater(len(told), 50)

    def test_rows_that_go_over_each_other(self):
        # A tall stack: each box that is not to stay to the end of its own stretch must give way.
        heights, standing = (6, 1, 1), (tuple("abcdef"), ("g",), ())
        for order in ("gfedcb", "fgedcb", "afbgce", "bcadge", "edcbga", "abcdef"):
            events = (("in", "h"),) + tuple([("out", box) for box in order])
            lots = start_lots(heights, standing, events)
            best = None
            if all(spare >= 0 for _, spare in lots.values()):
                best = max(plain_bound(heights, standing, events, covers) for covers in all_lots(sorted(lots)))
            self.check_changes(heights, standing, events, best)

    def test_no_events_and_no_deep_places(self):
        for standing in (STANDING, ((), (), ()), (("a", "b"), ("c",), ("d",))):
            self.assert_same(least_changes(yard=YARD, standing=standing, events=()), 0)
            self.assertIsNone(start_stuck(YARD, mended_start(yard=YARD, standing=standing, events=()), ()))
            covers = tight_covers(yard=YARD, standing=standing, events=())
            self.assert_same(change_bound(yard=YARD, standing=standing, events=(), covers=covers), 0)
        self.assert_same(change_bound(YARD, ((), (), ()), (), ()), 0)
        self.assert_same(tight_covers(YARD, ((), (), ()), ()), ())

    def test_covers(self):
        for covers in ((0,), (2,), (-1,), (0, 1), (1, 2), (1, 10 ** 30)):
            self.assert_told(InvalidSize, "cover", change_bound, YARD, STANDING, EVENTS, covers)
        self.assert_same(change_bound(YARD, STANDING, EVENTS, ()), 1)
        # Only b and c stay through the stretch of cover 1; one is owed, and no place is good.
        self.assert_same(change_bound(YARD, STANDING, EVENTS, (1,)), 0)
        self.assert_told(InvalidSize, "cover", change_bound, YARD, ((), (), ()), (), (1,))
        # Fewer stay than are owed: the number of more ones is below 0.
        full = (("a", "b"), ("c",), ("d",))
        gone = tuple([event for box, other in zip("dbac", "efgh") for event in (("out", box), ("in", other))])
        self.assertIs(least_changes(YARD, full, gone), None)
        # Of four deep places three are good, with rows that have nothing; one is owed to cover 1, and none stays.
        self.assert_same(change_bound(YARD, full, gone, (1,)), 4 - 3 + 1)
        self.assert_same(plain_bound((2, 1, 1), full, gone, (1,)), 2)

    def test_limits(self):
        lot = names(144)
        yard, full = Yard(TALLEST), tuple([lot[at:at + 12] for at in range(0, 144, 12)])
        away = tuple([("out", box) for box in lot]) + tuple([("in", "n" + box) for box in names(56)])
        back = (("out", lot[-1]), ("in", "x")) + tuple([("out", box) for box in lot[:130]])
        with self.within(20):
            for events in (away, back, ()):
                fewest = least_changes(yard, full, events)
                self.check_changes(TALLEST, full, events, fewest)
                self.assertEqual(count_starts(yard, lot, events) > 0, fewest is not None)
                self.assertEqual(count_ends(yard, full, events) > 0, fewest == 0)
            self.assertGreater(least_changes(yard, full, away), 10)
        self.assertEqual(deep_count(yard, 144), 144)


if __name__ == "__main__":
    unittest.main()
