"""Points 49 to 51: marks and tables, what goes on behind them, and weaves of two timetables."""

import random
import unittest
from itertools import permutations, product
from math import comb

from staysdeep.court import stuck_event
from staysdeep.errors import InvalidOrder, InvalidSize, InvalidTimetable, Refused
from staysdeep.joined import (
    as_good, count_marks, count_weaves, every_weave, goes_on, marks, marks_behind, marks_come, may_go, need_marks,
    parting, past_with, some_weave,
)
from staysdeep.timetables import need_timetable
from staysdeep.yards import Yard, places
from tests.helpers import (
    STUCK, TALLEST, WRONG_TIMETABLES, Checks, all_timetables, any_values, busy_timetable, drawn_timetable, drawn_yard,
    names, plain_places, plain_states, plain_stuck, some_timetables, strange_papers,
)
from tests.test_court import some_busy

YARD = Yard((2, 1, 1))
FULL = (("a", 2), ("b", 1), ("c", 1), ("d", 1))
# What is no table of the yard 2 1 1, with what is told of it.
WRONG_TABLES = (
    (None, -1), (True, -1), ("a", -1), ([], -1), ([("a", 2)], -1), (FULL + (("e", 1),), -1), ((None,) * 5, -1), ((None,), 0),
    ((("a",),), 0), ((("a", 2, 2),), 0), ((["a", 2],), 0), ((("a", True),), 0), ((("a", "2"),), 0), ((("A", 2),), 0),
    (((1, 2),), 0), ((("a", 3),), 0), ((("a", 1),), 0), ((("a", 2), ("b", 1)), 1), ((("a", 2), ("a", 2)), 1),
    ((("b", 2), ("a", 2)), 1), ((("a", 2), ("b", 2), ("b", 2)), 2), ((("a", 2), ("b", 1), ("c", 0)), 2),
    ((("a", -1), ("b", 1), ("c", 1), ("d", 1)), 0), ((("a", 2), (["b"], 1), ("c", 1)), 1), ((("a", 2), None, ("b", 9)), 1),
    (FULL[:3] + (("d", 3),), 3), (FULL[:3] + (("cc", True),), 3), (("a", 2), 0), ((("a", None),), 0),
)


def plain_marks(heights, timetable):
    counts = [sum(heights) - len(there) for there in plain_states(timetable)]
    told = []
    for box in sorted(plain_states(timetable)[-1]):
        begin = timetable.index(("in", box))
        told.append((box, min(max(heights), max(counts[begin:]))))
    return tuple(told)


def plain_held(heights, boxes):
    """Whether so many marks are great enough, where all boxes of a state are told by their marks."""
    free = sum(heights) - len(boxes)
    for cover in range(free, max(heights)):
        needs = sum(len(plain_places(heights, greater)) for greater in range(cover, max(heights)))
        if len([mark for mark in boxes if mark > cover]) < needs:
            return False
    return True


def reached_marks(heights):
    """All rows of marks, ascending, of states that some timetable leads to that can be carried out."""
    total, tallest = sum(heights), max(heights)
    known, waiting = {()}, [()]
    while waiting:
        row = waiting.pop()
        free = total - len(row)
        told = [row + (min(free, tallest),)] if free else []
        for at in range(len(row)):
            told.append(tuple([max(mark, min(free + 1, tallest)) for mark in row[:at] + row[at + 1:]]))
        for behind in [tuple(sorted(other)) for other in told]:
            if behind not in known and plain_held(heights, behind):
                known.add(behind)
                waiting.append(behind)
    return known


def all_tables_of(heights, lot):
    """All values of the form of a table of some boxes."""
    least = min(max(heights), sum(heights) - len(lot))
    rows = product(range(least, max(heights) + 1), repeat=len(lot))
    return [tuple(zip(lot, row)) for row in rows]


def coming_tables(heights, lot):
    reached = reached_marks(heights)
    return [table for table in all_tables_of(heights, lot) if tuple(sorted(mark for _, mark in table)) in reached]


def drawn_table(draw, yard, boxes):
    """Some table that comes, made from the least to the greatest cover."""
    total, tallest = places(yard), max(yard.heights)
    free = total - boxes
    above = boxes
    marks_of = []
    for cover in range(free, tallest):
        least = sum(max(0, height - cover) for height in yard.heights)
        many = draw.randrange(least, min(above, total - cover) + 1) if draw.random() < 0.6 else least
        marks_of += [cover] * (above - many)
        above = many
    marks_of += [tallest] * above
    draw.shuffle(marks_of)
    return tuple(zip(names(boxes), marks_of))


def all_weaves(one, other):
    if not one or not other:
        return [one + other]
    return [one[:1] + rest for rest in all_weaves(one[1:], other)] + [other[:1] + rest for rest in all_weaves(one, other[1:])]


def can_weave(yard, weave):
    """Whether a weave can be carried out."""
    try:
        return stuck_event(yard, weave) is None
    except InvalidTimetable:
        return False


def is_weave(one, other, weave):
    mine, theirs = {box for _, box in one}, {box for _, box in other}
    return tuple([event for event in weave if event[1] in mine]) == one and tuple([
        event for event in weave if event[1] in theirs]) == other and len(weave) == len(one) + len(other)


def two_timetables(draw, room, many, others):
    """Two timetables without a common box."""
    one = drawn_timetable(draw, room, many)
    other = tuple([(word, box + "x") for word, box in drawn_timetable(draw, room, others)])
    return one, other


class TestMarks(Checks):

    def test_all_short_timetables(self):
        for heights, length in (((1, 1, 1), 7), ((2, 1, 1), 8), ((1, 3, 1), 7)):
            for timetable in all_timetables(sum(heights), length):
                table = marks(Yard(heights), timetable)
                self.assert_same(table, plain_marks(heights, timetable))
                self.assertIsNone(need_marks(Yard(heights), table))
                self.assertIs(marks_come(Yard(heights), table), True)

    def test_busy_timetables(self):
        for heights, timetable in some_busy(110, 12):
            table = marks(Yard(heights), timetable)
            self.assert_same(table, plain_marks(heights, timetable))
            if stuck_event(Yard(heights), timetable) is None:
                self.assertIs(marks_come(Yard(heights), table), True)

    def test_long_timetables(self):
        for yard, timetable in some_timetables(111, 20):
            self.assert_same(marks(yard, timetable), plain_marks(yard.heights, timetable))
        lot = names(200)
        comings = tuple([("in", box) for box in lot[:144]])
        away = comings + tuple([("out", box) for box in lot[:56]])
        self.assert_same(marks(Yard(TALLEST), comings), plain_marks(TALLEST, comings))
        self.assert_same(marks(Yard(TALLEST), away), tuple([(box, 12) for box in lot[56:144]]))

    def test_the_example(self):
        self.assert_same(marks(YARD, STUCK[:6]), (("b", 2), ("c", 2), ("d", 1), ("e", 1)))
        self.assert_same(marks(yard=YARD, timetable=()), ())
        self.assert_timetable_first(marks)

    def test_carried_out_exactly_if_the_marks_are_great_enough(self):
        bad = 0
        for heights, timetable in some_busy(112, 12):
            held = []
            for at in range(len(timetable) + 1):
                held.append(plain_held(heights, [mark for _, mark in marks(Yard(heights), timetable[:at])]))
            stuck = plain_stuck(heights, timetable)
            bad += stuck is not None
            self.assertEqual(held.index(False) - 1 if False in held else None, stuck)
        self.assertGreater(bad, 10)


class TestNeedMarks(Checks):

    def test_tables(self):
        for table in ((), (("a", 2),), (("a", 2), ("b", 2)), (("a", 1), ("b", 1), ("c", 1)), FULL, (("a", 0),) + FULL[1:]):
            self.assertIsNone(need_marks(YARD, table))
        self.assertIsNone(need_marks(yard=YARD, value=FULL))
        # With more places free than the greatest height all marks are this one.
        self.assertIsNone(need_marks(Yard((12, 12, 12)), (("a", 12), ("b", 12))))
        self.assert_told(InvalidOrder, 1, need_marks, Yard((12, 12, 12)), (("a", 12), ("b", 11)))

    def test_what_are_no_tables(self):
        calls = ((need_marks, ()), (marks_come, ()), (past_with, ()), (may_go, ()), (goes_on, (None,)),
                 (marks_behind, ([],)), (as_good, (FULL,)), (as_good, (None,)), (parting, (FULL,)), (parting, ((),)))
        for call, rest in calls:
            for value, at in WRONG_TABLES:
                self.assert_told(InvalidOrder, at, call, YARD, value, *rest)
        for call in (as_good, parting):
            for value, at in WRONG_TABLES:
                self.assert_told(InvalidOrder, at, call, YARD, FULL, value)
                # The form of both comes before whether they come.
                self.assert_told(InvalidOrder, at, call, YARD, (("a", 0),) + FULL[1:], value)

    def test_any_value(self):
        for value in any_values() + strange_papers():
            if value != ():
                self.assert_told(InvalidOrder, -1 if not isinstance(value, tuple) else 0, need_marks, YARD, value)
            for pair in ((value, 2), ("b", value), value):
                good = repr(pair) in [repr((name, 2)) for name in ("abc", "b", "in", "out")]
                if good:
                    self.assertIsNone(need_marks(YARD, (("a", 2), pair)))
                else:
                    self.assert_told(InvalidOrder, 1, need_marks, YARD, (("a", 2), pair))

    def test_tables_that_do_not_come(self):
        for table in ((("a", 0),) + FULL[1:], (("a", 1),) + FULL[1:], tuple([(box, 2) for box in "abcd"]),
                      (("a", 1), ("b", 1), ("c", 1))):
            self.assertIs(marks_come(YARD, table), False)
            for call, rest in ((past_with, ()), (may_go, ()), (goes_on, (None,)), (marks_behind, (None,)), (as_good, (FULL,)),
                               (as_good, (table,)), (parting, (FULL,)), (as_good, ((),)), (goes_on, ((),))):
                self.assert_told(Refused, "marks", call, YARD, table, *rest)
            for call in (as_good, parting):
                self.assert_told(Refused, "marks", call, YARD, FULL, table)
                self.assert_told(Refused, "marks", call, YARD, (), table)


class TestGoesOn(Checks):

    def test_what_a_plain_search_finds(self):
        told = []
        for heights, timetable in some_busy(113, 12):
            yard, stuck = Yard(heights), plain_stuck(heights, timetable)
            for at in range(len(timetable) + 1 if stuck is None else stuck + 1):
                table = marks(yard, timetable[:at])
                wanted = None if stuck is None else stuck - at
                told.append(wanted)
                self.assert_same(goes_on(yard, table, timetable[at:]), wanted)
                if wanted is None:
                    self.assert_same(marks_behind(yard, table, timetable[at:]), marks(yard, timetable))
                else:
                    self.assert_told(Refused, wanted, marks_behind, yard, table, timetable[at:])
                self.assert_same(marks_behind(yard, table, ()), table)
        self.assertGreater(len(told) - told.count(None), 60)

    def test_behind_each_table(self):
        # Nothing but the table counts: behind any timetable with it the same events can be done.
        draw = random.Random(114)
        for heights in ((2, 1, 1), (1, 3, 1)):
            yard = Yard(heights)
            for boxes in range(sum(heights) + 1):
                for table in coming_tables(heights, tuple("abcde"[:boxes]))[::3]:
                    past, there = past_with(yard, table), [box for box, _ in table]
                    events = []
                    for at in range(8):
                        if there and (len(there) == sum(heights) or draw.random() < 0.5):
                            events.append(("out", there.pop(draw.randrange(len(there)))))
                        else:
                            there.append("new" + "abcdefgh"[at])
                            events.append(("in", there[-1]))
                    stuck = plain_stuck(heights, past + tuple(events))
                    wanted = None if stuck is None else stuck - len(past)
                    self.assert_same(goes_on(yard, table, tuple(events)), wanted)

    def test_wrong_events(self):
        table = (("a", 2), ("b", 2), ("c", 1))
        for call in (goes_on, marks_behind):
            for value, at in WRONG_TIMETABLES:
                if not isinstance(value, tuple):
                    self.assert_told(InvalidTimetable, -1, call, YARD, table, value)
                else:
                    self.assert_told(InvalidTimetable, at, call, Yard((1, 1, 1)), (), value)
            for value, at in (((("in", "a"),), 0), ((("out", "d"),), 0), ((("in", "d"), ("in", "e")), 1),
                              ((("out", "a"), ("in", "a")), 1), ((("out", "a"), ("out", "a")), 1), ((None,), 0),
                              ((("in", "d"), ("out", "d"), ("in", "d")), 2), ((("out", "c"), ["in", "d"]), 1)):
                self.assert_told(InvalidTimetable, at, call, YARD, table, value)
            for value in any_values() + strange_papers():
                if value != ():
                    at = -1 if not isinstance(value, tuple) else 0
                    self.assert_told(InvalidTimetable, at, call, YARD, table, value)
                self.assert_told(InvalidTimetable, 1, call, YARD, table, (("out", "a"), value))

    def test_the_example(self):
        table = marks(YARD, STUCK[:6])
        self.assert_same(goes_on(YARD, table, STUCK[6:]), 2)
        self.assert_told(Refused, 2, marks_behind, YARD, table, STUCK[6:])
        self.assert_same(goes_on(yard=YARD, table=table, events=STUCK[6:8]), None)
        self.assert_same(marks_behind(yard=YARD, table=table, events=STUCK[6:8]), marks(YARD, STUCK[:8]))
        self.assert_same(goes_on(YARD, (), STUCK), 8)
        self.assert_same(goes_on(YARD, (), ()), None)

    def test_limits(self):
        lot = names(300)
        table = tuple([(box, 12 if at < 133 else 144 - at) for at, box in enumerate(lot[:144])])
        events = tuple([event for at in range(100) for event in (("out", lot[143 + at]), ("in", lot[144 + at]))])
        with self.within(10):
            self.assertIsNone(goes_on(Yard(TALLEST), table, events))
            self.assertEqual(len(marks_behind(Yard(TALLEST), table, events)), 144)
            self.assertEqual(may_go(Yard(TALLEST), table)[-1], lot[143])
            self.assertIsNotNone(goes_on(Yard(TALLEST), table, tuple([
                event for at in range(100) for event in (("out", lot[at]), ("in", lot[144 + at]))])))


class TestMayGo(Checks):

    def test_each_box(self):
        for heights in ((1, 1, 1), (2, 1, 1), (1, 3, 1), (2, 2, 1), (4, 1, 1)):
            for boxes in range(sum(heights) + 1):
                for table in coming_tables(heights, tuple("abcdef"[:boxes])):
                    wanted = []
                    for box, _ in table:
                        least = min(max(heights), sum(heights) - boxes + 1)
                        rest = [max(mark, least) for name, mark in table if name != box]
                        if plain_held(heights, rest):
                            wanted.append(box)
                            self.assertIsNone(goes_on(Yard(heights), table, (("out", box),)))
                        else:
                            self.assert_same(goes_on(Yard(heights), table, (("out", box),)), 0)
                    self.assert_same(may_go(Yard(heights), table), tuple(wanted))
                    self.assertTrue(wanted or boxes == 0)

    def test_a_plain_search(self):
        for heights, timetable in some_busy(115, 5):
            stuck = plain_stuck(heights, timetable)
            state = timetable if stuck is None else timetable[:stuck]
            wanted = [box for box in sorted(plain_states(state)[-1]) if plain_stuck(heights, state + (("out", box),)) is None]
            self.assert_same(may_go(Yard(heights), marks(Yard(heights), state)), tuple(wanted))

    def test_the_example(self):
        self.assert_same(may_go(YARD, marks(YARD, STUCK[:6])), ("b", "c", "d", "e"))
        self.assert_same(may_go(yard=YARD, table=marks(YARD, STUCK[:8])), ("d", "e", "f"))
        self.assert_same(may_go(YARD, ()), ())


class TestTablesThatCome(Checks):

    def test_all_tables(self):
        for heights in ((1, 1, 1), (2, 1, 1), (1, 3, 1), (2, 2, 1), (4, 1, 1), (3, 2, 1)):
            yard, reached = Yard(heights), reached_marks(heights)
            for boxes in range(sum(heights) + 1):
                many = 0
                for table in all_tables_of(heights, tuple("abcdef"[:boxes])):
                    comes = tuple(sorted(mark for _, mark in table)) in reached
                    self.assertIs(marks_come(yard, table), comes)
                    many += comes
                    if comes:
                        past = past_with(yard, table)
                        self.assertIsNone(need_timetable(yard, past))
                        self.assert_same(marks(yard, past), table)
                        self.assertIsNone(stuck_event(yard, past))
                    else:
                        self.assert_told(Refused, "marks", past_with, yard, table)
                self.assert_same(count_marks(yard, boxes), many)

    def test_drawn_tables(self):
        draw = random.Random(116)
        with self.within(30):
            for _ in range(60):
                yard = drawn_yard(draw)
                boxes = places(yard) - draw.choice([free for free in (0, 0, 1, 2, 5, 11, 12, 13) if free <= places(yard)])
                table = drawn_table(draw, yard, boxes)
                self.assertIs(marks_come(yard, table), True)
                past = past_with(yard, table)
                self.assert_same(marks(yard, past), table)
                self.assertIsNone(stuck_event(yard, past))

    def test_names_that_are_taken(self):
        table = (("newa", 1), ("newb", 2), ("olda", 1), ("oldb", 1))
        past = past_with(YARD, table)
        self.assert_same(marks(YARD, past), table)
        other = (("newa", 2), ("newb", 1), ("olda", 1), ("oldb", 1))
        events = parting(YARD, other, table)
        self.assertIsNone(goes_on(YARD, table, events))
        self.assertIsNone(stuck_event(YARD, past + events))
        self.assertIsNotNone(goes_on(YARD, other, events))

    def test_counts(self):
        self.assert_same((count_marks(YARD, 4), count_marks(YARD, 3)), (14, 7))
        self.assert_same(count_marks(yard=YARD, boxes=0), 1)
        self.assert_same(count_marks(Yard((1,) * 12), 12), 1)
        for boxes in (-1, 5, 10 ** 30, -4):
            self.assert_told(InvalidSize, "boxes", count_marks, YARD, boxes)
        with self.within(10):
            # So many places free that only one mark is there.
            self.assert_same(count_marks(Yard(TALLEST), 132), 1)
            for boxes in (133, 138, 144):
                self.assertGreater(count_marks(Yard(TALLEST), boxes), 10 ** 20)
            self.assert_same(count_marks(Yard(TALLEST), 133), sum(comb(133, many) for many in range(12, 134)))


class TestAsGood(Checks):

    def futures(self, heights, table, depth):
        """All events, up to a depth, that go on behind a table, the new boxes named in order."""
        told, level = [()], [((), tuple([mark for _, mark in table]), tuple([box for box, _ in table]))]
        for at in range(depth):
            further = []
            for events, row, boxes in level:
                free = sum(heights) - len(row)
                ways = [(("in", "new" + "abcdefgh"[at]), row + (min(free, max(heights)),), boxes + ("new" + "abcdefgh"[at],))]
                ways = ways if free else []
                for place, box in enumerate(boxes):
                    rest = [max(mark, min(free + 1, max(heights))) for mark in row[:place] + row[place + 1:]]
                    ways.append((("out", box), tuple(rest), boxes[:place] + boxes[place + 1:]))
                further += [(events + (event,), rest, left) for event, rest, left in ways if plain_held(heights, rest)]
            told += [events for events, _, _ in further]
            level = further
        return told

    def test_all_pairs_of_tables(self):
        for heights, lot, depth in (((2, 1, 1), "abc", 4), ((2, 1, 1), "abcd", 4), ((1, 1, 3), "abc", 3), ((1, 1, 1), "abc", 3)):
            yard, tables = Yard(heights), coming_tables(heights, tuple(lot))
            for other in tables[:30]:
                futures = self.futures(heights, other, depth)
                for one in tables:
                    good = all(mark >= least for (_, mark), (_, least) in zip(one, other))
                    self.assertIs(as_good(yard, one, other), good)
                    events = parting(yard, one, other)
                    if good:
                        self.assertIsNone(events)
                        for future in futures[::7]:
                            self.assertIsNone(goes_on(yard, one, future))
                    else:
                        self.assertIs(type(events), tuple)
                        self.assertIsNone(goes_on(yard, other, events))
                        self.assertIsNotNone(goes_on(yard, one, events))

    def test_what_parts_is_found_by_a_plain_search(self):
        for heights, lot in (((2, 1, 1), "abcd"), ((1, 3, 1), "abcd")):
            yard, tables = Yard(heights), coming_tables(heights, tuple(lot))
            for one, other in list(permutations(tables, 2))[::max(1, len(tables) // 2)]:
                events = parting(yard, one, other)
                if events is not None:
                    past = past_with(yard, one)
                    self.assertIsNone(plain_stuck(heights, past_with(yard, other) + events))
                    self.assertGreaterEqual(plain_stuck(heights, past + events), len(past))

    def test_drawn_tables(self):
        draw = random.Random(117)
        with self.within(40):
            for _ in range(60):
                yard = drawn_yard(draw, heights=(1, 2, 3, 6, 12), stacks=(3, 4, 12))
                boxes = places(yard) - draw.choice([free for free in (0, 0, 1, 2, 5) if free <= places(yard)])
                one, other = drawn_table(draw, yard, boxes), drawn_table(draw, yard, boxes)
                for first, second in ((one, other), (other, one), (one, one)):
                    good = all(mark >= least for (_, mark), (_, least) in zip(first, second))
                    self.assertIs(as_good(yard, first, second), good)
                    events = parting(yard, first, second)
                    self.assertIs(events is None, good)
                    if not good:
                        self.assertIsNone(goes_on(yard, second, events))
                        self.assertEqual(goes_on(yard, first, events), len(events) - 1)

    def test_other_boxes(self):
        table = (("a", 2), ("b", 2), ("c", 1))
        for other in ((("a", 2), ("b", 2), ("d", 1)), (("a", 2), ("b", 2)), (), FULL):
            for call in (as_good, parting):
                self.assert_told(Refused, "boxes", call, YARD, table, other)
                self.assert_told(Refused, "boxes", call, YARD, other, table)
        self.assertIs(as_good(yard=YARD, one=table, other=table), True)
        self.assert_same(parting(yard=YARD, one=table, other=table), None)
        self.assertIs(as_good(YARD, (), ()), True)


class TestWeaves(Checks):

    def check_weaves(self, yard, one, other):
        """All weaves by the plain way; tells (whether each can be done, how many can)."""
        weaves = all_weaves(one, other)
        good = [weave for weave in weaves if can_weave(yard, weave)]
        self.assert_same(count_weaves(yard, one, other), len(good))
        some, bad = some_weave(yard, one, other), every_weave(yard, one, other)
        if good:
            self.assertIn(some, good)
        else:
            self.assertIsNone(some)
        if len(good) == len(weaves):
            self.assertIsNone(bad)
        else:
            self.assertTrue(is_weave(one, other, bad))
            self.assertFalse(can_weave(yard, bad))
        return len(good) == len(weaves), len(good)

    def test_all_weaves(self):
        draw, told = random.Random(118), []
        for heights in ((1, 1, 1), (2, 1, 1), (1, 3, 1), (2, 2, 1), (4, 1, 1), (1,) * 12, (12, 12, 12)):
            for _ in range(40):
                one, other = two_timetables(draw, min(4, sum(heights)), draw.randrange(8), draw.randrange(5))
                told.append(self.check_weaves(Yard(heights), one, other))
        self.assertGreater(len([pair for pair in told if pair[0]]), 20)
        self.assertGreater(len([pair for pair in told if not pair[0] and pair[1]]), 15)
        self.assertGreater(len([pair for pair in told if not pair[1]]), 5)

    def turnover(self, names_of, fill, turns):
        """Some boxes come, and then one after another goes and another one comes."""
        lot = list(names_of)
        events = [("in", box) for box in lot[:fill]]
        for at in range(turns):
            events += [("out", lot[at]), ("in", lot[fill + at])]
        return tuple(events)

    def test_weaves_that_never_have_too_many_boxes(self):
        # These are stuck only for boxes that stay for too short a time.
        told = []
        for heights in ((2, 1, 1), (4, 1, 1), (3, 2, 1), (3, 3, 3)):
            total = sum(heights)
            for fill in (1, 2):
                one = self.turnover("abcdefgh", fill, 2)
                for more in (1, 2):
                    if total - fill - more >= 0:
                        other = self.turnover(["z" + box for box in "abcdefgh"], more, 2)
                        told.append(self.check_weaves(Yard(heights), one, other))
            other = self.turnover(["z" + box for box in "abcdefgh"], total - 2, 1)
            if len(other) < 7:
                told.append(self.check_weaves(Yard(heights), self.turnover("abcdefgh", 2, 2), other))
        self.assertIn(True, [good for good, _ in told])
        self.assertTrue([many for good, many in told if not good and many])

    def test_bad_weaves_of_twelve_events(self):
        draw, told = random.Random(119), []
        with self.within(40):
            for heights in ((2, 1, 1), (4, 1, 1), (3, 3, 3), (6, 1, 1, 1), (2, 2, 2), (12, 1, 1)):
                total = sum(heights)
                for room in range(1, total):
                    one = busy_timetable(draw, room, 12, room - 1)
                    other = busy_timetable(draw, total - room, 12, total - room - 1)
                    other = tuple([(word, box[:7] + "x") for word, box in other])
                    bad = every_weave(Yard(heights), one, other)
                    told.append(bad is None)
                    if bad is not None:
                        self.assertTrue(is_weave(one, other, bad))
                        self.assertFalse(can_weave(Yard(heights), bad))
                    else:
                        for _ in range(60):
                            row = [0] * len(one) + [1] * len(other)
                            draw.shuffle(row)
                            ways = [iter(one), iter(other)]
                            self.assertTrue(can_weave(Yard(heights), tuple([next(ways[at]) for at in row])))
        self.assertEqual(set(told), {True, False})

    def test_eight_and_eight_events(self):
        draw = random.Random(120)
        with self.within(40):
            for heights in ((2, 1, 1), (3, 2, 1), (4, 1, 1), (2, 2, 2)):
                one, other = two_timetables(draw, 3, 8, 8)
                weaves = all_weaves(one, other)
                good = [weave for weave in draw.sample(weaves, 300) if can_weave(Yard(heights), weave)]
                many = count_weaves(Yard(heights), one, other)
                self.assertLessEqual(many, len(weaves))
                self.assertLess(abs(many / len(weaves) - len(good) / 300), 0.15)
                some = some_weave(Yard(heights), one, other)
                self.assertIs(some is None, many == 0)
                if some is not None:
                    self.assertTrue(is_weave(one, other, some))
                    self.assertTrue(can_weave(Yard(heights), some))
            self.assert_same(count_weaves(Yard(TALLEST), one, other), 12870)

    def test_no_events(self):
        one = (("in", "a"), ("out", "a"))
        for first, second in (((), ()), (one, ()), ((), one)):
            self.assert_same(some_weave(yard=YARD, one=first, other=second), first + second)
            self.assert_same(every_weave(yard=YARD, one=first, other=second), None)
            self.assert_same(count_weaves(yard=YARD, one=first, other=second), 1)
        self.assert_same((some_weave(YARD, STUCK, ()), every_weave(YARD, (), STUCK), count_weaves(YARD, STUCK, ())),
                         (None, STUCK, 0))

    def test_too_many_boxes(self):
        yard = Yard((1, 1, 1))
        one, other = (("in", "a"), ("in", "b"), ("out", "a")), (("in", "x"), ("in", "y"))
        bad = every_weave(yard, one, other)
        self.assertTrue(is_weave(one, other, bad))
        self.assertRaises(InvalidTimetable, need_timetable, yard, bad)
        self.assert_same((some_weave(yard, one, other) is None, count_weaves(yard, one, other)), (False, 4))
        self.assert_same(count_weaves(yard, one[:2], other), 0)
        # Nobody goes behind it, either.
        bad = every_weave(yard, one[:2], other)
        self.assertTrue(is_weave(one[:2], other, bad))
        self.assertRaises(InvalidTimetable, need_timetable, yard, bad)

    def test_what_is_refused(self):
        calls = (every_weave, some_weave, count_weaves)
        one, other = (("in", "a"), ("in", "b")), (("in", "c"), ("out", "c"), ("in", "b"))
        for call in calls:
            self.assert_told(Refused, "boxes", call, YARD, one, other)
            self.assert_told(Refused, "boxes", call, YARD, one, one)
            self.assert_timetable_first(call, None)
            self.assert_timetable_first(call, one)
            for value, at in WRONG_TIMETABLES:
                self.assert_told(InvalidTimetable, at, call, Yard((1, 1, 1)), one, value)


if __name__ == "__main__":
    unittest.main()
