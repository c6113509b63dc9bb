"""Points 17 and 18: timetables, their states, and their texts."""

import unittest
from itertools import product

from staysdeep.errors import InvalidSize, InvalidText, InvalidTimetable, NoName
from staysdeep.timetables import (
    free_counts, need_timetable, presence, presences, read_timetable, state_boxes, timetable_boxes, timetable_text,
)
from staysdeep.yards import Yard
from tests.helpers import TALLEST, Checks, all_timetables, any_values, names, plain_states

POOL = [(word, box) for box in "abcd" for word in ("in", "out")]
NO_EVENTS = (
    (), ("in",), ("in", "a", "b"), ["in", "a"], ("in", ""), ("in", "A"), ("in", "a1"), ("in", "abcdefghi"), ("on", "a"),
    ("IN", "a"), ("In", "a"), ("", "a"), ("in ", "a"), ("in", " a"), ("in", "a "), ("in", "a\n"), ("move", "a"),
    ("a", "in"), ("in", "\u00e9"), ("in", None), (None, "a"), ("in", True), (True, "a"), (0, "a"), ("in", ("a",)), (("in",), "a"),
    ("in", ["a"]), (["in"], "a"), "in a", "in", "ia",
)


def wrong_at(value, room):
    """The first wrong place of a tuple as a timetable, where so many boxes have room."""
    came, there = [], []
    for at, event in enumerate(value):
        if type(event) is not tuple or len(event) != 2 or event not in [(word, event[1]) for word in ("in", "out")]:
            return at
        box = event[1]
        if type(box) is not str or not 1 <= len(box) <= 8 or not set(box) <= set("abcdefghijklmnopqrstuvwxyz"):
            return at
        if event[0] == "in":
            if box in came or len(there) >= room:
                return at
            came.append(box)
            there.append(box)
        else:
            if box not in there:
                return at
            there.remove(box)
    return None


class TestNeedTimetable(Checks):

    def check_timetable(self, heights, value):
        at = wrong_at(value, sum(heights)) if type(value) is tuple else -1
        if at is None:
            self.assertIsNone(need_timetable(Yard(heights), value))
        else:
            self.assert_told(InvalidTimetable, at, need_timetable, Yard(heights), value)

    def test_all_rows_of_four_events(self):
        for length in range(5):
            for events in product(POOL, repeat=length):
                self.check_timetable((1, 1, 1), events)

    def test_no_more_boxes_than_places(self):
        for heights in ((1, 1, 1), (2, 1, 1), (1, 2, 3)):
            comings = tuple([("in", box) for box in names(9)])
            for many in range(10):
                for goes in range(many + 1):
                    events = comings[:many] + tuple([("out", box) for box in names(9)[:goes]]) + comings[many:]
                    self.check_timetable(heights, events)

    def test_any_value(self):
        for value in any_values():
            self.check_timetable((1, 1, 1), value)
            for event in (value, ("in", value), (value, "a"), ("out", value), ("in", "a", value), (value,)):
                self.check_timetable((1, 1, 1), (event,))
                self.check_timetable((1, 1, 1), (("in", "a"), event, ("out", "a")))
                self.check_timetable((1, 1, 1), [event])

    def test_what_is_no_event(self):
        for event in NO_EVENTS:
            for at in range(3):
                events = [("in", "x"), ("in", "y"), ("out", "x")]
                self.assert_told(InvalidTimetable, at, need_timetable, Yard((1, 1, 1)),
                                 tuple(events[:at] + [event] + events[at:]))

    def test_the_tallest_yard(self):
        comings = tuple([("in", box) for box in names(145)])
        self.assertIsNone(need_timetable(Yard(TALLEST), comings[:144]))
        self.assert_told(InvalidTimetable, 144, need_timetable, Yard(TALLEST), comings)

    def test_other_calls_raise_it_first(self):
        self.assert_timetable_first(need_timetable)
        self.assert_timetable_first(free_counts)


class TestStates(Checks):

    def test_small_timetables(self):
        for timetable in all_timetables(3, 7):
            states, yard = plain_states(timetable), Yard((1, 1, 1))
            self.assert_same(free_counts(yard, timetable), tuple([3 - len(there) for there in states]))
            boxes = sorted({box for _, box in timetable})
            self.assert_same(timetable_boxes(timetable), tuple(boxes))
            spans = []
            for box in boxes:
                seen = [state for state, there in enumerate(states) if box in there]
                spans.append((box, seen[0], seen[-1]))
                self.assert_same(presence(timetable, box), (seen[0], seen[-1]))
            self.assert_same(presences(timetable), tuple(spans))

    def test_boxes_of_states(self):
        for timetable in all_timetables(3, 6):
            for state, there in enumerate(plain_states(timetable)):
                self.assert_same(state_boxes(timetable, state), tuple(sorted(there)))
            for state in (-1, -len(timetable) - 1, len(timetable) + 1, 10 ** 30):
                self.assert_told(InvalidSize, "state", state_boxes, timetable, state)

    def test_names_that_never_come(self):
        timetable = (("in", "ab"), ("in", "c"), ("out", "ab"))
        for box in ("a", "b", "abc", "in", "out", "d"):
            self.assert_told(NoName, box, presence, timetable, box)
        self.assert_told(NoName, "a", presence, (), "a")

    def test_names_go_in_the_order_of_python(self):
        timetable = (("in", "b"), ("in", "ab"), ("in", "a"), ("out", "b"), ("in", "aa"))
        self.assert_same(timetable_boxes(timetable), ("a", "aa", "ab", "b"))
        self.assert_same(state_boxes(timetable, 5), ("a", "aa", "ab"))
        self.assert_same(presences(timetable), (("a", 3, 5), ("aa", 5, 5), ("ab", 2, 5), ("b", 1, 3)))

    def test_a_box_that_goes_at_once_and_one_that_stays(self):
        timetable = (("in", "a"), ("out", "a"), ("in", "b"))
        self.assert_same((presence(timetable, "a"), presence(timetable, "b")), ((1, 1), (3, 3)))

    def test_no_events(self):
        self.assert_same((timetable_boxes(()), presences(()), timetable_text(()), read_timetable("")), ((), (), "", ()))
        self.assert_same((state_boxes((), 0), free_counts(Yard((2, 1, 1)), ())), ((), (4,)))
        self.assert_told(InvalidSize, "state", state_boxes, (), 1)

    def test_two_hundred_events(self):
        lot = names(100)
        timetable = tuple([("in", box) for box in lot] + [("out", box) for box in lot])
        with self.within(10):
            self.assert_same(free_counts(Yard(TALLEST), timetable)[98:103], (46, 45, 44, 45, 46))
            self.assert_same(presences(timetable), tuple([(box, at + 1, at + 100) for at, box in enumerate(lot)]))
            for state in range(201):
                there = lot[:state] if state <= 100 else lot[state - 100:]
                self.assert_same(state_boxes(timetable, state), there)


class TestTexts(Checks):

    def test_there_and_back(self):
        for timetable in all_timetables(3, 6):
            text = "\n".join([" ".join(event) for event in timetable])
            self.assert_same(timetable_text(timetable), text)
            self.assert_same(read_timetable(text), timetable)

    def test_the_number_of_places_is_not_asked(self):
        timetable = tuple([("in", box) for box in names(200)])
        self.assert_same(read_timetable(timetable_text(timetable)), timetable)
        self.assertEqual(len(read_timetable("\n".join(["in " + box for box in names(600)]))), 600)

    def test_the_order_of_events(self):
        for length in range(5):
            for events in product(POOL[:6], repeat=length):
                at, text = wrong_at(events, 99), timetable_text(events)
                if at is None:
                    self.assert_same(read_timetable(text), events)
                else:
                    self.assert_told(InvalidText, at, read_timetable, text)

    def test_what_is_no_string(self):
        for value in any_values():
            if not isinstance(value, str):
                self.assert_told(InvalidText, -1, read_timetable, value)

    def test_what_is_no_line(self):
        for line in ("", " ", "in", "in ", " in a", "in  a", "in a ", "ina", "in a b", "in A", "in a1", "on a", "In a",
                     "in abcdefghi", "in\ta", "in a\r", "out", "out ", "move 0 1", "a", "in in out", "in \u00e9",
                     "in\u00a0a"):
            for at in range(3):
                lines = ["in x", "in y", "out x"]
                self.assert_told(InvalidText, at, read_timetable, "\n".join(lines[:at] + [line] + lines[at:] + ["?"]))
        for text, at in (("\n", 0), ("in a\n", 1), ("\nin a", 0), ("in a\n\nout a", 1), ("in a\r\nout a", 0),
                         ("in a\x0bout a", 0), ("in a\u2028out a", 0)):
            self.assert_told(InvalidText, at, read_timetable, text)

    def test_words_as_names(self):
        self.assert_same(read_timetable("in in\nin out\nout in\nout out"),
                         (("in", "in"), ("in", "out"), ("out", "in"), ("out", "out")))

    def test_sixty_thousand_signs(self):
        with self.within(10):
            self.assert_told(InvalidText, 1, read_timetable, "in a\n" * 12000)
            self.assert_told(InvalidText, 0, read_timetable, "in " + "a" * 60000)
            self.assert_told(InvalidText, 0, read_timetable, "\n" * 60000)


if __name__ == "__main__":
    unittest.main()
