"""Points 54 and 55: a yard in which time goes on."""

import random
import unittest
from itertools import permutations

from staysdeep.changes import safe_standing
from staysdeep.digs import can_dig
from staysdeep.errors import InvalidOrder, InvalidPlan, InvalidTimetable, NoName, Refused
from staysdeep.joined import goes_on, marks, may_go
from staysdeep.live import Live, live_after
from staysdeep.plans import plan_events
from staysdeep.rule import leaving_order, rule_steps
from staysdeep.yards import Yard
from tests.helpers import (
    TALLEST, Checks, any_values, names, plain_ends, plain_move, plain_run, plain_states, plain_stuck,
    strange_papers,
)
from tests.onward import boxes_in
from tests.test_plans import HEIGHTS, PLAN, WRONG_PLANS, drawn_plan

YARD = Yard(HEIGHTS)
FOUR = (("in", "a", 0), ("in", "b", 1), ("in", "c", 2), ("in", "d", 0))
LAIN = (("a", "d"), ("b",), ("c",))


def kept(live):
    """All that a yard in which time goes on keeps."""
    return repr(sorted((name, value) for name, value in vars(live).items() if name != "yard")), live.yard.heights


def can_redo(live):
    """How often a step can be done again, told by trying it."""
    return live.trying(lambda one: len([None for _ in range(5000) if one.redo()]))


class TestCarry(Checks):

    def test_at_first(self):
        for heights in ((1, 1, 1), HEIGHTS, TALLEST):
            yard = Yard(heights)
            live = Live(yard)
            self.assertIs(live.yard, yard)
            self.assert_same((live.standing, live.plan, len(live)), (((),) * len(heights), (), 0))
            self.assert_same((live.undo(), live.redo(), live.missed(), live.verdict(()), live.safe(())), (False, False, (), None, True))
            self.assertIs(Live(yard=yard).yard, yard)

    def test_drawn_plans_in_parts(self):
        draw = random.Random(320)
        for heights in ((1, 1, 1), HEIGHTS, (1, 3, 1), (3, 2, 1), (1,) * 12, (12, 12, 12)):
            for _ in range(10):
                plan = drawn_plan(draw, heights, draw.randrange(40))
                way, live, at = plain_run(heights, plan), Live(Yard(heights)), 0
                while at < len(plan):
                    many = draw.randrange(4)
                    told = live.carry(plan[at:at + many])
                    at = min(len(plan), at + many)
                    self.assert_same(told, way[at])
                    self.assert_same((live.standing, live.plan, len(live)), (way[at], plan[:at], at))
                whole = live_after(Yard(heights), plan)
                self.assertIs(type(whole), Live)
                self.assertEqual(kept(whole), kept(live))

    def test_what_cannot_be_done(self):
        for value, at in WRONG_PLANS:
            live = Live(YARD)
            self.assert_told(InvalidPlan, at, live.carry, value)
            self.assert_told(InvalidPlan, at, live_after, YARD, value)
            self.assertEqual(kept(live), kept(Live(YARD)))

    def test_later_steps_are_counted_from_the_first_of_these(self):
        live = live_after(YARD, FOUR)
        before = kept(live)
        for steps, at in (((("in", "e", 0),), 0), ((("out", "d", 0), ("in", "a", 0)), 1), ((("out", "d", 0), ("in", "d", 0)), 1),
                          ((("out", "b", 1), ("in", "e", 1), ("move", 0, 1)), 2), ((("out", "a", 0),), 0), ((None,), 0),
                          (list(FOUR), -1), (("move", 0, 1), 0), (None, -1), ("", -1)):
            self.assert_told(InvalidPlan, at, live.carry, steps)
            self.assertEqual(kept(live), before)
        # What came before and is gone does not come again, in whatever call.
        live.carry((("out", "d", 0),))
        self.assert_told(InvalidPlan, 0, live.carry, (("in", "d", 0),))
        self.assert_same(live.carry(steps=(("in", "e", 0),)), (("a", "e"), ("b",), ("c",)))
        # Taken back, it has not come.
        self.assertIs(live.undo(), True)
        self.assertIs(live.undo(), True)
        self.assertIs(live.undo(), True)
        self.assert_same(live.carry((("in", "d", 0),)), LAIN)

    def test_any_value(self):
        live = live_after(YARD, FOUR[:2])
        before = kept(live)
        for value in any_values() + strange_papers():
            if value != ():
                self.assert_told(InvalidPlan, -1 if not isinstance(value, tuple) else 0, live.carry, value)
                self.assert_told(InvalidPlan, -1 if not isinstance(value, tuple) else 0, live_after, YARD, value)
            self.assert_told(InvalidPlan, 1, live.carry, (("in", "x", 2), value))
        self.assertEqual(kept(live), before)

    def test_not_iterable_and_not_changed_by_reading(self):
        live = live_after(YARD, FOUR)
        with self.assertRaises(TypeError):
            iter(live)
        before = kept(live)
        for _ in range(2):
            self.assert_same((live.missed(), live.verdict((("out", "a"),)), live.safe(("d", "b", "c", "a"))), (("a",), 0, True))
        self.assertEqual(kept(live), before)
        self.assertIsInstance(live.plan, tuple)


class TestServe(Checks):

    def test_as_the_rule(self):
        draw = random.Random(321)
        for heights in ((1, 1, 1), HEIGHTS, (1, 3, 1), (2, 2, 1)):
            for _ in range(15):
                live = live_after(Yard(heights), drawn_plan(draw, heights, draw.randrange(12)))
                there = list(boxes_in(live.standing))
                events = [("out", box) for box in there] + [("in", "zz")] * (len(there) < sum(heights))
                for event in events:
                    order = tuple(draw.sample(sorted(set(there) | {event[1]}), len(set(there) | {event[1]})))
                    before = kept(live)
                    if event[0] == "out" and not can_dig(live.yard, live.standing, event[1]):
                        self.assert_told(Refused, "deep", live.serve, event, order)
                        self.assertEqual(kept(live), before)
                        continue
                    steps = rule_steps(live.yard, live.standing, event, order)
                    plan, standing = live.plan, live.standing
                    self.assert_same(live.serve(event, order), steps)
                    self.assert_same((live.plan, live.standing), (plan + steps, plain_run(heights, steps, standing)[-1]))
                    for _ in steps:
                        live.undo()

    def test_what_is_refused(self):
        live = live_after(YARD, FOUR)
        live.carry((("out", "d", 0),))
        before = kept(live)
        for box in "abcd":
            # Also the one that is gone, and before all else.
            self.assert_told(Refused, "box", live.serve, ("in", box), None)
        live.carry((("in", "e", 0),))
        full = kept(live)
        self.assert_told(Refused, "box", live.serve, ("in", "d"), None)
        self.assert_told(Refused, "room", live.serve, ("in", "f"), None)
        self.assert_told(NoName, "f", live.serve, ("out", "f"), None)
        self.assert_told(NoName, "d", live.serve, ("out", "d"), None)
        for order, at in ((None, -1), (["a", "b", "c", "e"], -1), ((), 0), (("a", "b", "c"), 3), (("a", "d"), 1), (("a", "a"), 1),
                          (("a", "b", "c", "e", "d"), 4), ((True,), 0)):
            self.assert_told(InvalidOrder, at, live.serve, ("out", "e"), order)
            self.assert_told(InvalidOrder, at, live.serve, ("out", "a"), order)
        self.assert_told(Refused, "deep", live.serve, ("out", "a"), ("a", "b", "c", "e"))
        self.assertEqual(kept(live), full)
        live.undo()
        self.assert_told(InvalidOrder, 3, live.serve, ("in", "f"), ("a", "b", "c"))
        self.assert_same(live.plan, FOUR + (("out", "d", 0),))
        self.assertNotEqual(kept(live), before)
        self.assert_same(live.serve(order=("b", "f", "a", "c"), event=("in", "f")), rule_steps(
            YARD, (("a",), ("b",), ("c",)), ("in", "f"), ("b", "f", "a", "c")))

    def test_taken_back_it_may_come_again(self):
        live = Live(YARD)
        live.serve(("in", "a"), ("a",))
        self.assert_told(Refused, "box", live.serve, ("in", "a"), ("a",))
        live.undo()
        self.assertEqual(len(live.serve(("in", "a"), ("a",))), 1)


class TestUndo(Checks):

    def test_back_and_forth(self):
        draw = random.Random(322)
        for heights in ((1, 1, 1), HEIGHTS, (1, 3, 1), (12, 12, 12)):
            for _ in range(12):
                plan = drawn_plan(draw, heights, draw.randrange(1, 30))
                way, live, done = plain_run(heights, plan), live_after(Yard(heights), plan), len(plan)
                for _ in range(80):
                    back = draw.random() < 0.5
                    told = live.undo() if back else live.redo()
                    self.assertIs(told, done > 0 if back else done < len(plan))
                    done += (-1 if back else 1) if told else 0
                    self.assert_same((live.standing, live.plan, len(live)), (way[done], plan[:done], done))

    def test_what_ends_the_redoing(self):
        live = live_after(YARD, FOUR)
        self.assertEqual([live.undo(), live.undo(), live.undo()], [True] * 3)
        self.assertEqual(can_redo(live), 3)
        # None of these does a step.
        live.carry(())
        live.missed(), live.verdict((("out", "a"),)), live.safe(("a",)), len(live)
        self.assert_told(InvalidPlan, 0, live.carry, (("in", "a", 0),))
        self.assert_told(InvalidPlan, 1, live.carry, (("in", "b", 1), ("in", "a", 0)))
        self.assert_told(Refused, "box", live.serve, ("in", "a"), ("a",))
        self.assert_told(InvalidOrder, 0, live.serve, ("in", "b"), ())
        self.assert_told(InvalidTimetable, 0, live.verdict, (("in", "a"),))
        self.assertEqual(can_redo(live), 3)
        # A step that is done again leaves the others.
        self.assertIs(live.redo(), True)
        self.assertEqual((can_redo(live), live.plan), (2, FOUR[:2]))
        # Any other step drops them, also the very one that was taken back, and those of `serve`.
        live.carry(FOUR[2:3])
        self.assertEqual((can_redo(live), live.redo(), live.plan), (0, False, FOUR[:3]))
        live.undo()
        live.serve(("out", "b"), ("b", "a"))
        self.assertIs(live.redo(), False)

    def test_nothing_to_take_back(self):
        live = Live(YARD)
        self.assertEqual([live.undo(), live.redo(), live.undo()], [False] * 3)
        live.carry(FOUR[:1])
        self.assertEqual([live.undo(), live.undo(), live.redo(), live.redo()], [True, False, True, False])

    def test_undo_of_moves_and_goings(self):
        steps = FOUR[:3] + (("move", 1, 0), ("move", 2, 1), ("out", "b", 0), ("out", "a", 0))
        live, way = live_after(YARD, steps), plain_run(HEIGHTS, steps)
        for at in range(len(steps) - 1, -1, -1):
            self.assertIs(live.undo(), True)
            self.assert_same(live.standing, way[at])
        for at in range(len(steps)):
            self.assertIs(live.redo(), True)
            self.assert_same(live.standing, way[at + 1])


class TestTrying(Checks):

    def test_all_is_as_before(self):
        live = live_after(YARD, FOUR)
        live.undo()
        before = kept(live)
        self.assert_same(live.trying(lambda one: one.carry((("in", "x", 0),))), (("a", "x"), ("b",), ("c",)))
        self.assertEqual((kept(live), can_redo(live)), (before, 1))
        self.assertIs(live.trying(work=lambda one: one), live)
        self.assertIs(live.trying(lambda one: None), None)
        self.assert_same(live.trying(lambda one: [one.undo(), one.undo(), one.undo(), one.undo(), len(one)]), [True] * 3 + [False, 0])
        self.assertEqual((kept(live), can_redo(live)), (before, 1))
        live.trying(lambda one: one.redo())
        self.assertEqual((kept(live), can_redo(live)), (before, 1))

    def test_errors_go_on(self):
        live = live_after(YARD, FOUR)
        live.undo()
        before = kept(live)

        def work(one):
            one.carry((("out", "b", 1),))
            one.carry((("out", "b", 1),))

        def other(one):
            one.serve(("out", "c"), ("c", "b", "a"))
            raise ZeroDivisionError("of its own")

        self.assert_told(InvalidPlan, 0, live.trying, work)
        self.assertEqual((kept(live), can_redo(live)), (before, 1))
        with self.assertRaises(ZeroDivisionError):
            live.trying(other)
        self.assertEqual((kept(live), can_redo(live)), (before, 1))
        # What came in what was tried has not come.
        live.trying(lambda one: one.carry((("in", "q", 0),)))
        self.assert_same(live.carry((("in", "q", 0),)), (("a", "q"), ("b",), ("c",)))

    def test_within_each_other(self):
        live = live_after(YARD, FOUR[:2])
        before = kept(live)

        def inner(one):
            one.carry((("in", "y", 2),))
            raise ValueError("inner")

        def work(one):
            one.carry((("in", "x", 0),))
            middle = kept(one)
            self.assertEqual(one.trying(lambda it: (it.undo(), it.undo(), len(it))), (True, True, 1))
            self.assertEqual(kept(one), middle)
            with self.assertRaises(ValueError):
                one.trying(inner)
            self.assertEqual(kept(one), middle)
            return one.plan

        self.assert_same(live.trying(work), FOUR[:2] + (("in", "x", 0),))
        self.assertEqual(kept(live), before)


def onward_rows(standing, gone, room, length):
    """All further events of just such a length; new boxes come in one order."""
    rows = [()]
    for _ in range(length):
        further = []
        for events in rows:
            there = plain_states(events, boxes_in(standing))[-1]
            came = [box for word, box in events if word == "in"]
            further += [events + (("out", box),) for box in sorted(there)]
            if len(there) < room:
                further.append(events + (("in", "new" + "abcdefgh"[len(came)]),))
        rows = further
    return rows


class TestVerdict(Checks):

    def test_what_a_plain_search_finds(self):
        draw, told = random.Random(323), []
        for heights in ((1, 1, 1), HEIGHTS, (1, 3, 1), (2, 2, 1)):
            for _ in range(8):
                live = live_after(Yard(heights), drawn_plan(draw, heights, draw.randrange(16), 0.2))
                gone = {box for box in names(99)} - set(boxes_in(live.standing))
                rows = onward_rows(live.standing, gone, sum(heights), draw.randrange(5))
                for events in draw.sample(rows, min(12, len(rows))):
                    stuck = plain_stuck(heights, events, live.standing)
                    self.assert_same(live.verdict(events), stuck)
                    told.append(stuck)
        self.assertGreater(len([stuck for stuck in told if stuck is not None]), 8)
        self.assertGreater(told.count(None), 60)

    def test_what_is_no_row_of_events(self):
        live = live_after(YARD, FOUR + (("out", "d", 0),))
        before = kept(live)
        for value, at in ((None, -1), ([], -1), ((None,), 0), ((("in", "a"),), 0), ((("out", "d"),), 0), ((("in", "d"),), 0),
                          ((("in", "e"), ("in", "f")), 1), ((("out", "a"), ("in", "d")), 1), ((("out", "a"), ("in", "a")), 1),
                          ((("in", "d"), None), 0), ((("in", "e"), None, ("in", "d")), 1), ((["in", "e"],), 0),
                          ((("out", "a"), ("in", "d"), ("in", "e"), ("in", "f")), 1), ((("in", "", ),), 0), (("in", "e"), 0)):
            self.assert_told(InvalidTimetable, at, live.verdict, value)
        for value in any_values() + strange_papers():
            if value != ():
                self.assert_told(InvalidTimetable, -1 if not isinstance(value, tuple) else 0, live.verdict, value)
            self.assert_told(InvalidTimetable, 1, live.verdict, (("out", "a"), value))
        self.assertEqual(kept(live), before)
        self.assert_same(live.verdict(events=(("in", "e"), ("out", "e"), ("out", "c"))), None)
        self.assert_same(live.verdict((("in", "e"), ("out", "a"))), 1)
        live.undo()
        self.assert_same(live.verdict((("out", "d"),)), None)

    def test_moves_change_nothing(self):
        draw = random.Random(324)
        for heights in (HEIGHTS, (1, 3, 1), (2, 2, 1)):
            for _ in range(10):
                live = live_after(Yard(heights), drawn_plan(draw, heights, draw.randrange(16), 0.2))
                rows = onward_rows(live.standing, (), sum(heights), 3)
                order = tuple(draw.sample(boxes_in(live.standing), len(boxes_in(live.standing))))
                told = self.all_three(live, rows, order)
                for _ in range(12):
                    moves = [(one, other) for one in range(len(heights)) for other in range(len(heights))
                             if plain_move(heights, live.standing, (one, other)) is not None]
                    if moves:
                        live.carry((("move",) + draw.choice(moves),))
                self.assertEqual(self.all_three(live, rows, order), told)

    def all_three(self, live, rows, order):
        verdicts = [live.verdict(events) for events in rows]
        try:
            return verdicts, live.missed(), live.safe(order)
        except Refused as error:
            return verdicts, live.missed(), error.word

    def test_whoever_serves_gets_as_far(self):
        draw, refused = random.Random(325), 0
        for heights in (HEIGHTS, (1, 3, 1), (2, 2, 1), (3, 1, 1)):
            for _ in range(14):
                live = live_after(Yard(heights), drawn_plan(draw, heights, draw.randrange(12), 0.1))
                rows = onward_rows(live.standing, (), sum(heights), 6 if sum(heights) < 5 else 5)
                events = draw.choice(rows)
                verdict, boxes = live.verdict(events), boxes_in(live.standing)
                past = tuple([("in", box) for box in boxes])
                for at, event in enumerate(events):
                    state = len(past) + at + (1 if event[0] == "in" else 0)
                    order = leaving_order(past + events, state)
                    if at == verdict:
                        self.assert_told(Refused, "deep", live.serve, event, order)
                        refused += 1
                        break
                    live.serve(event, order)
                    moves = [(one, other) for one in range(len(heights)) for other in range(len(heights))
                             if plain_move(heights, live.standing, (one, other)) is not None]
                    if moves and draw.random() < 0.7:
                        live.carry((("move",) + draw.choice(moves),))
        self.assertGreater(refused, 5)


class TestMissedAndSafe(Checks):

    def test_missed(self):
        draw, told = random.Random(326), []
        for heights in ((1, 1, 1), HEIGHTS, (1, 3, 1), (2, 2, 1), (4, 1, 1)):
            for _ in range(12):
                live = live_after(Yard(heights), drawn_plan(draw, heights, draw.randrange(14), 0.2))
                events = plan_events(live.plan)
                ends = plain_ends(heights, events)[-1]
                wanted = []
                for box in boxes_in(live.standing):
                    if plain_stuck(heights, (("out", box),), live.standing) is not None:
                        otherwise = [one for one in ends if can_dig(live.yard, one, box)]
                        wanted += [box] if otherwise else []
                self.assert_same(live.missed(), tuple(wanted))
                told.append(len(wanted))
                table = marks(live.yard, events)
                left = [box for box in may_go(live.yard, table) if not can_dig(live.yard, live.standing, box)]
                self.assert_same(live.missed(), tuple(left))
        self.assertGreater(max(told), 1)
        self.assertIn(0, told)

    def test_safe(self):
        draw, told = random.Random(327), []
        for heights in (HEIGHTS, (1, 3, 1), (2, 2, 1)):
            for _ in range(10):
                live = live_after(Yard(heights), drawn_plan(draw, heights, draw.randrange(14), 0.2))
                table = marks(live.yard, plan_events(live.plan))
                for order in list(permutations(boxes_in(live.standing)))[::7]:
                    if goes_on(live.yard, table, tuple([("out", box) for box in order])) is not None:
                        self.assert_told(Refused, "order", live.safe, order)
                        continue
                    told.append(live.safe(order))
                    self.assert_same(told[-1], safe_standing(live.yard, table, order, live.standing))
                    if told[-1] and order:
                        self.assertNotIn(order[0], live.missed())
        self.assertEqual(set(told), {True, False})

    def test_wrong_orders(self):
        live = live_after(YARD, FOUR)
        before = kept(live)
        for order, at in ((None, -1), (["a", "b", "c", "d"], -1), ((), 0), (("a", "b"), 2), (("a", "e"), 1), (("a", "a"), 1),
                          (("a", True), 1), (("d", "c", "b", "a", "d"), 4)):
            self.assert_told(InvalidOrder, at, live.safe, order)
        for value in any_values() + strange_papers():
            at = -1 if not isinstance(value, tuple) else 1 if value == ("a",) else 0
            self.assert_told(InvalidOrder, at, live.safe, value)
        self.assertEqual(kept(live), before)
        self.assert_same(live.safe(order=("d", "b", "c", "a")), True)
        self.assert_same(live.safe(("a", "b", "c", "d")), False)

    def test_the_example(self):
        live = Live(YARD)
        self.assert_same(live.carry(FOUR), LAIN)
        self.assert_same(live.missed(), ("a",))
        self.assert_same(live.verdict((("out", "b"), ("out", "a"))), None)
        self.assert_same(live.verdict((("out", "b"), ("in", "e"), ("out", "a"))), 2)
        self.assert_same(live.serve(("out", "b"), ("b", "a", "c", "d")), (("out", "b", 1),))
        self.assert_same((live.missed(), live.undo()), ((), True))
        self.assert_same(live_after(yard=YARD, plan=PLAN).standing, plain_run(HEIGHTS, PLAN)[-1])


class TestLimits(Checks):

    def test_three_thousand_steps(self):
        lot = names(200)
        comings = tuple([("in", box, at // 12) for at, box in enumerate(lot[:132])])
        moves = (("move", 0, 11), ("move", 11, 0)) * 1400
        later = tuple([("in", box, 11) for box in lot[132:144]]) + tuple([("out", box, 11) for box in lot[132:144][::-1]])
        plan = comings + moves + later + tuple([("in", box, 11) for box in lot[144:156]])
        self.assertGreater(len(plan), 2900)
        with self.within(60):
            live = Live(Yard(TALLEST))
            for at in range(0, len(plan), 3):
                live.carry(plan[at:at + 3])
            self.assertEqual(len(live), len(plan))
            self.assertEqual(kept(live_after(Yard(TALLEST), plan)), kept(live))
            boxes = boxes_in(live.standing)
            self.assert_same(live.missed(), tuple([box for box in may_go(live.yard, marks(live.yard, plan_events(plan)))
                                                   if not can_dig(live.yard, live.standing, box)]))
            self.assertIsNone(live.verdict(tuple([("out", box) for box in lot[144:156][::-1]])))
            lowest = tuple([pile[level] for level in range(12) for pile in live.standing])
            self.assertEqual(tuple(sorted(lowest)), boxes)
            self.assertIs(live.safe(lowest[::-1]), True)
            while live.undo():
                pass
            self.assertEqual(len(live), 0)
            while live.redo():
                pass
            self.assertEqual(live.plan, plan)


if __name__ == "__main__":
    unittest.main()
