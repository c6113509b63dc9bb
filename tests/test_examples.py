"""The examples of all sections, and those of the README."""

import doctest
import pathlib
import unittest

README = pathlib.Path(__file__).resolve().parent.parent / "README.md"

SECTION_1 = """
    >>> from staysdeep.yards import Yard
    >>> from staysdeep.court import court
    >>> yard = Yard((2, 1, 1))
    >>> words = "in a in b in c in d out a in e out b in f out c".split()
    >>> short = court(yard, tuple(zip(words[::2], words[1::2])))
    >>> short.cover, short.stretch, short.stayers
    (1, (3, 9), ())
"""

SECTION_3 = """
    >>> from staysdeep.moves import bare_walk, lifted, moves_from, walked
    >>> from staysdeep.standings import count_standings, deep_boxes, standing_at, standing_number
    >>> from staysdeep.yards import Yard, deep_places, deep_row, layer
    >>> yard = Yard([2, 1, 1])
    >>> layer(yard, 0), deep_row(yard, 3), deep_places(yard, 3)
    (((0, 1), (1, 0), (2, 0)), (1, 0, 0), ((0, 0),))
    >>> count_standings(yard, 2), standing_at(yard, ("a", "b"), 4), standing_number(yard, (("b",), (), ("a",)))
    (8, (('a', 'b'), (), ()), 5)
    >>> start = (("a", "b"), ("c",), ())
    >>> deep_boxes(yard, start), moves_from(yard, start), lifted(yard, start, ((1, 2), (0, 1)))
    ((((0, 0), 'a'),), ((0, 2), (1, 2)), ('b', 'c'))
    >>> walked(yard, start, ((0, 2), (1, 0), (2, 1)))
    (('a', 'c'), ('b',), ())
    >>> bare_walk(((0, 1), (1, 2), (0, 1), (1, 0), (2, 1)))
    ((0, 1),)
"""

SECTION_4 = """
    >>> from staysdeep.classes import class_size, count_classes
    >>> from staysdeep.digs import dig_walk, shift_walk, wish_walk
    >>> from staysdeep.yards import Yard
    >>> yard, standing = Yard((3, 2, 1)), (("a", "b"), ("c", "d"), ())
    >>> count_classes(yard, 4), class_size(yard, 4)
    (4, 30)
    >>> dig_walk(yard, standing, "a"), shift_walk(yard, standing, "a")
    (((0, 2),), None)
    >>> wish_walk(yard, standing, "c", 0), wish_walk(yard, standing, "b", 1)
    (((1, 2), (1, 0)), ((1, 2), (0, 1)))
"""

SECTION_5 = """
    >>> from staysdeep.yards import Yard
    >>> from staysdeep.court import court, dealings_count, stuck_event
    >>> from staysdeep.mirrors import emptied
    >>> yard = Yard((2, 1, 1))
    >>> words = "in a in b in c in d out a in e out b in f out c".split()
    >>> timetable = tuple(zip(words[::2], words[1::2]))
    >>> stuck_event(yard, timetable), emptied(yard, timetable[:8])[8:]
    (8, (('out', 'd'), ('out', 'e'), ('out', 'f'), ('out', 'c')))
    >>> court(yard, timetable[:4]).table
    (((0, 0), (3, 4), 'a'), ((0, 1), (4, 4), 'b'), ((1, 0), (4, 4), 'c'), ((2, 0), (4, 4), 'd'))
    >>> dealings_count(yard, timetable[:4])
    18
"""

SECTION_6 = """
    >>> from staysdeep.yards import Yard
    >>> from staysdeep.lines import fewest_plan, longest_line, moves_below
    >>> from staysdeep.plans import plan_events, plan_moves, plan_paper, read_plan
    >>> from staysdeep.rule import leaving_order
    >>> yard = Yard((2, 1, 1))
    >>> plan = read_plan("in a 1\\nin b 0\\nin c 2\\nin d 0\\nout a 1\\nmove 0 1\\nout b 0\\nout c 2")
    >>> plan_paper(yard, plan).table
    (((0, 0), (3, 5), 'b'), ((0, 1), (4, 4), 'd'), ((1, 0), (4, 4), 'a'), ((2, 0), (4, 4), 'c'))
    >>> leaving_order(plan_events(plan), 4)
    ('a', 'b', 'c', 'd')
    >>> longest_line(plan_events(plan)), moves_below(yard, plan_events(plan))
    (('a', 'b', 'c', 'd'), 1)
    >>> plan_moves(fewest_plan(yard, plan_events(plan)))
    1
"""

SECTION_7 = """
    >>> from staysdeep.dues import due_order
    >>> from staysdeep.goings import count_goings, goings_at, ready, stuck_going
    >>> from staysdeep.kinds import count_choices, first_come, last_come, may_take
    >>> from staysdeep.yards import Yard
    >>> yard, standing = Yard((2, 1, 1)), (("a", "b"), ("c",), ("d",))
    >>> ready(yard, standing, 0), stuck_going(yard, standing, ("c", "a")), count_goings(yard, 4, 4)
    (('b', 'c', 'd'), None, 18)
    >>> goings_at(yard, standing, 4, 0), due_order(yard, standing, (("a", 1),)).first
    (('b', 'a', 'c', 'd'), 1)
    >>> comings = tuple([("in", box, "x") for box in "abcdef"])
    >>> requests = comings[:4] + (("out", "x"), comings[4], ("out", "x"), comings[5], ("out", "x"))
    >>> last_come(requests)[-1], first_come(requests)[-1], count_choices(requests)
    (('out', 'f'), ('out', 'c'), 64)
    >>> may_take(yard, requests, first_come(requests)[:8])
    ('d', 'e', 'f')
"""

SECTION_8 = """
    >>> from staysdeep.costs import count_ends, count_starts, least_changes
    >>> from staysdeep.starts import start_court, start_stuck
    >>> from staysdeep.yards import Yard
    >>> yard, standing, events = Yard((2, 1, 1)), (("a", "b"), ("c",), ()), (("in", "d"), ("out", "a"))
    >>> torn = start_court(yard, standing, events)
    >>> torn.place, torn.stretch, torn.start, start_stuck(yard, standing, events)
    ((0, 0), (0, 2), 'a', 1)
    >>> count_starts(yard, ("a", "b", "c"), events), least_changes(yard, standing, events)
    (12, 1)
    >>> count_ends(yard, standing, events), count_ends(yard, standing, (("in", "d"), ("out", "c")))
    (0, 6)
"""

SECTION_9 = """
    >>> from staysdeep.compared import carries_all, common_yard, either_yard, levelled, parted_by
    >>> from staysdeep.counted import count_timetables, count_yards
    >>> from staysdeep.helped import fewest_places, further_stack, weakest_yard
    >>> from staysdeep.yards import Yard
    >>> tall, flat = Yard((4, 1, 1, 1)), Yard((3, 3, 1))
    >>> carries_all(tall, flat), carries_all(flat, tall)
    (False, False)
    >>> common_yard(tall, flat).heights, either_yard(tall, flat).heights, levelled(flat, 3).heights
    ((4, 2, 1), (3, 2, 1, 1), (4, 3, 3))
    >>> events = parted_by(tall, flat)
    >>> len(events), weakest_yard(events, 7, 3).heights, count_yards(events, 7, 3)
    (12, (3, 3, 1), 6)
    >>> fewest_places(tall, events), further_stack(tall, events), count_timetables(Yard((2, 1, 1)), 5)
    (1, 1, 99000)
"""

SECTION_10 = """
    >>> from staysdeep.wagons import can_turn, count_turnings, fewest_turns, spin_walk, turned_by, walk_parity
    >>> from staysdeep.yards import Yard
    >>> yard, one = Yard((1, 1, 1)), (("a",), ("b",), ())
    >>> other = (("b",), ("a",), ())
    >>> turned_by(yard, one, ((1, 2), (0, 1), (2, 0))), walk_parity(yard, one, other), can_turn(yard, one, other, ())
    (('a',), 1, False)
    >>> fewest_turns(yard, one, other, ("b",)), fewest_turns(yard, one, one, ("a", "b"))
    (3, 6)
    >>> count_turnings(yard, 2), count_turnings(Yard((2, 1, 1)), 2)
    (12, 32)
    >>> len(spin_walk(Yard((2, 1, 1)), (("a",), (), ("b",)), "a"))
    7
"""

SECTION_11 = """
    >>> from staysdeep.yards import Yard
    >>> from staysdeep.changes import count_safe, day_order, hold_of, safe_boxes
    >>> from staysdeep.joined import count_marks, goes_on, marks, may_go
    >>> yard = Yard((2, 1, 1))
    >>> words = "in a in b in c in d out a in e out b in f out c".split()
    >>> events = tuple(zip(words[::2], words[1::2]))
    >>> marks(yard, events[:6]), goes_on(yard, marks(yard, events[:6]), events[6:])
    ((('b', 2), ('c', 2), ('d', 1), ('e', 1)), 2)
    >>> may_go(yard, marks(yard, events[:6])), may_go(yard, marks(yard, events[:8]))
    (('b', 'c', 'd', 'e'), ('d', 'e', 'f'))
    >>> count_marks(yard, 4), count_marks(yard, 3)
    (14, 7)
    >>> day_order((((), ("a", "b", "c")), (("a", "d"), ("d", "e"))))[2:]
    (('in', 'a'), ('out', 'a'), ('in', 'd'), ('out', 'd'), ('in', 'e'))
    >>> table, order = marks(yard, events[:6]), ("b", "d", "e", "c")
    >>> hold_of(yard, table, order, 1), safe_boxes(yard, table, order, 1), count_safe(yard, table, order)
    (3, ('c',), 6)
"""

SECTION_12 = """
    >>> from staysdeep.desk import Desk
    >>> from staysdeep.live import Live
    >>> from staysdeep.yards import Yard
    >>> live = Live(Yard((2, 1, 1)))
    >>> live.carry((("in", "a", 0), ("in", "b", 1), ("in", "c", 2), ("in", "d", 0)))
    (('a', 'd'), ('b',), ('c',))
    >>> live.missed(), live.verdict((("out", "b"), ("out", "a"))), live.verdict((("out", "b"), ("in", "e"), ("out", "a")))
    (('a',), None, 2)
    >>> live.serve(("out", "b"), ("b", "a", "c", "d")), live.missed(), live.undo()
    ((('out', 'b', 1),), (), True)
    >>> desk = Desk()
    >>> [desk.say(word) for word in ("yard 2 1 1", "in a 0", "in b 2", "move 2 0", "verdict out b ; out a")]
    ['4', 'a ;  ; ', 'a ;  ; b', 'a b ;  ; ', 'possible']
"""


class TestExamples(unittest.TestCase):

    def check_examples(self, text, name):
        test = doctest.DocTestParser().get_doctest(text, {}, name, name, 0)
        self.assertGreater(len(test.examples), 0)
        told = []
        doctest.DocTestRunner().run(test, out=told.append)
        self.assertEqual("".join(told), "")

    def test_section_1(self):
        self.check_examples(SECTION_1, "section 1")

    def test_section_3(self):
        self.check_examples(SECTION_3, "section 3")

    def test_section_4(self):
        self.check_examples(SECTION_4, "section 4")

    def test_section_5(self):
        self.check_examples(SECTION_5, "section 5")

    def test_section_6(self):
        self.check_examples(SECTION_6, "section 6")

    def test_section_7(self):
        self.check_examples(SECTION_7, "section 7")

    def test_section_8(self):
        self.check_examples(SECTION_8, "section 8")

    def test_section_9(self):
        self.check_examples(SECTION_9, "section 9")

    def test_section_10(self):
        self.check_examples(SECTION_10, "section 10")

    def test_section_11(self):
        self.check_examples(SECTION_11, "section 11")

    def test_section_12(self):
        self.check_examples(SECTION_12, "section 12")

    def test_readme(self):
        self.check_examples(README.read_text(encoding="utf-8"), "README.md")


if __name__ == "__main__":
    unittest.main()
