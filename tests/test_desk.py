"""Point 58: commands for a yard in which time goes on."""

import unittest

from staysdeep.desk import Desk
from staysdeep.errors import (
    InvalidCommand, InvalidOrder, InvalidPlan, InvalidText, InvalidTimetable, NoName, Refused,
)
from staysdeep.live import Live
from staysdeep.plans import plan_text
from staysdeep.rule import rule_steps
from staysdeep.standings import boxes_of
from staysdeep.texts import standing_text
from staysdeep.yards import Yard
from tests.helpers import STUCK, Checks, any_values, names, strange_papers

BEGIN = ("yard 2 1 1", "in a 0", "in b 1", "in c 2", "in d 0")


def desk_after(*commands):
    desk = Desk()
    for command in commands:
        desk.say(command)
    return desk


def kept(desk):
    live = desk.live
    return None if live is None else (id(live), live.yard.heights, live.standing, live.plan, repr(sorted(vars(live).items())[0]))


class TestDesk(Checks):

    def assert_no_command(self, desk, command):
        before = kept(desk)
        with self.assertRaises(InvalidCommand) as caught:
            desk.say(command)
        self.assertEqual((caught.exception.__class__, vars(caught.exception)), (InvalidCommand, {}))
        self.assertEqual(kept(desk), before)

    def test_the_example(self):
        desk = Desk()
        self.assertIs(desk.live, None)
        commands = ("yard 2 1 1", "in a 0", "in b 2", "move 2 0", "verdict out b ; out a")
        self.assert_same([desk.say(word) for word in commands], ["4", "a ;  ; ", "a ;  ; b", "a b ;  ; ", "possible"])
        self.assertIs(type(desk.live), Live)
        self.assert_same(desk.say(command="standing"), "a b ;  ; ")

    def test_a_day_at_the_desk(self):
        desk = desk_after(*BEGIN)
        told = (
            ("standing", "a d ; b ; c"), ("missed", "a"), ("verdict out a", "stuck 0"), ("verdict ", "possible"),
            ("plan", "in a 0 ; in b 1 ; in c 2 ; in d 0"), ("verdict out b ; in e ; out a", "stuck 2"),
            ("go b b a c d", "out b 1"), ("missed", "nobody"), ("undo", "done"), ("missed", "a"), ("redo", "done"),
            ("redo", "nothing"), ("move 0 1", "a ; d ; c"), ("out a 0", " ; d ; c"), ("come e d c e", "in e 0"),
            ("standing", "e ; d ; c"), ("out e 0", " ; d ; c"), ("out d 1", " ;  ; c"), ("out c 2", " ;  ; "),
            ("standing", " ;  ; "), ("missed", "nobody"), ("verdict in x ; out x", "possible"),
            ("yard 1 1 1 1", "4"), ("plan", ""), ("undo", "nothing"), ("redo", "nothing"), ("standing", " ;  ;  ; "),
            ("come a a", "in a 0"), ("in b 3", "a ;  ;  ; b"), ("missed", "nobody"),
        )
        for command, answer in told:
            self.assert_same((command, desk.say(command)), (command, answer))

    def test_as_the_calls_behind_it(self):
        desk, live = desk_after("yard 2 1 1"), Live(Yard((2, 1, 1)))
        for event in STUCK[:8]:
            order = sorted(set(boxes_of(live.standing)) | {event[1]})
            steps = rule_steps(live.yard, live.standing, event, tuple(order))
            word = {"in": "come", "out": "go"}[event[0]]
            self.assert_same(desk.say(" ".join([word, event[1]] + order)), plan_text(steps).replace("\n", " ; "))
            live.carry(steps)
            self.assert_same(desk.say("standing"), standing_text(live.standing).replace("\n", " ; "))
            self.assert_same(desk.say("plan"), plan_text(live.plan).replace("\n", " ; "))
            self.assert_same(desk.say("missed"), " ".join(live.missed()) or "nobody")
        self.assert_told(Refused, "deep", desk.say, "go c c d e f")
        self.assert_same(desk.say("verdict out c"), "stuck 0")
        # More than one step is told in one line, too.
        desk = desk_after("yard 2 1 1", "in a 0", "in b 0")
        self.assert_same(desk.say("go a a b"), "move 0 1 ; out a 0")

    def test_yards(self):
        desk = Desk()
        for text, at in (("", 0), ("2 1", 2), ("2 1 x", 2), ("2  1 1", 1), ("2 1 1 ", 3), (" 2 1 1", 0), ("0 1 1", 0), ("13 1 1", 0)):
            self.assert_told(InvalidText, at, desk.say, "yard " + text)
            self.assertIs(desk.live, None)
        self.assert_same(desk.say("yard 12 12 12"), "36")
        live = desk.live
        self.assert_told(InvalidText, 1, desk.say, "yard 1 one 1")
        self.assertIs(desk.live, live)
        self.assert_same(desk.say("yard 1 1 1"), "3")
        self.assertIsNot(desk.live, live)
        self.assert_same((desk.live.yard.heights, desk.live.plan), ((1, 1, 1), ()))

    def test_steps_with_their_errors(self):
        desk = desk_after(*BEGIN)
        for command in ("move ", "move 0", "move 0 0", "move 0 12", "move 0 1 ", "move  0 1", "move 01 1", "in a", "in A 0",
                        "in  0", "in a 0 0", "out a", "out a x", "out ", "in ", "in abcdefghi 0", "move a b", "out b 1 ; out c 2"):
            before = kept(desk)
            self.assert_told(InvalidText, 0, desk.say, command)
            self.assertEqual(kept(desk), before)
        for command in ("move 0 1", "move 0 5", "in e 0", "in a 1", "out a 0", "out b 0", "out x 1", "out b 11"):
            before = kept(desk)
            self.assert_told(InvalidPlan, 0, desk.say, command)
            self.assertEqual(kept(desk), before)
        self.assert_same(desk.say("out d 0"), "a ; b ; c")
        self.assert_told(InvalidPlan, 0, desk.say, "in d 0")

    def test_served_events_with_their_errors(self):
        desk = desk_after(*BEGIN)
        for command, error, told in (
                ("come a", Refused, "box"), ("come a x", Refused, "box"), ("come e", Refused, "room"), ("go e", NoName, "e"),
                ("go d", InvalidOrder, 0), ("go d ", InvalidOrder, 0), ("go d d", InvalidOrder, 1), ("go d d  a", InvalidOrder, 1),
                ("go d a b c d ", InvalidOrder, 4), ("go d a b c", InvalidOrder, 3), ("go d a b c A", InvalidOrder, 3),
                ("go a a b c d", Refused, "deep"), ("go d d c b ", InvalidOrder, 3)):
            before = kept(desk)
            self.assert_told(error, told, desk.say, command)
            self.assertEqual(kept(desk), before)
        desk.say("out d 0")
        self.assert_told(Refused, "box", desk.say, "come d d a b c")
        self.assert_told(InvalidOrder, 0, desk.say, "come e")
        for command in ("come ", "come", "go", "go ", "come  a", "come E e", "go abcdefghi a", "go a1 a", "come", "come  "):
            self.assert_no_command(desk, command)
        self.assert_same(desk_after("yard 1 1 1").say("come abcdefgh abcdefgh"), "in abcdefgh 0")
        # Without names the order is empty: it has all boxes only where there are none, and that is never so.
        self.assert_told(InvalidOrder, 0, desk_after("yard 1 1 1").say, "come a")
        self.assert_told(InvalidOrder, 0, desk_after("yard 1 1 1").say, "come a ")

    def test_verdicts_with_their_errors(self):
        desk = desk_after(*BEGIN)
        for text, at in ((" ", 0), ("out", 0), ("out  b", 0), ("out b ", 0), ("out b;out c", 0), ("out b ; ", 1), (" ; out b", 0),
                         ("out b ;  ; out c", 1), ("out b ; out b", 1), ("in e", 0), ("out b ; in b", 1), ("out x", 0), ("go b", 0),
                         ("out b ; in e ; in f", 2), ("out B", 0), ("out b c", 0), (" ; ", 0), ("out b  ;  out c", 0)):
            before = kept(desk)
            self.assert_told(InvalidTimetable, at, desk.say, "verdict " + text)
            self.assertEqual(kept(desk), before)
        self.assert_same(desk.say("verdict out d ; out a"), "possible")
        self.assert_same(desk.say("verdict out d ; in e ; out a"), "stuck 2")
        self.assert_no_command(desk, "verdict")

    def test_one_blank_more_or_less(self):
        desk = desk_after(*BEGIN)
        for word in ("standing", "plan", "missed", "undo", "redo"):
            for command in (word + " ", " " + word, word + " x", word + "  ", word.upper(), word[:-1], word + "s"):
                self.assert_no_command(desk, command)
        for word in ("yard", "move", "in", "out", "come", "go", "verdict"):
            for command in (word, " " + word, " " + word + " ", word.upper() + " a b", word + "x 1 1 1", word + "\t1 1 1"):
                self.assert_no_command(desk, command)
        for command in ("", " ", "  ", "stand", "help ", "x y z"):
            self.assert_no_command(desk, command)

    def test_newlines(self):
        desk = desk_after(*BEGIN)
        for command in ("yard 2 1 1\n", "\nyard 2 1 1", "in e 0\n", "out d 0\nout c 2", "standing\n", "\n", "undo\nredo", "plan\n",
                        "verdict \n", "come e\n e", "go d a b c\n"):
            self.assert_no_command(desk, command)
            self.assert_no_command(Desk(), command)

    def test_no_yard_yet(self):
        desk = Desk()
        for command in ("standing", "plan", "missed", "undo", "redo", "in a 0", "move 0 0", "out ", "come a a", "go a", "verdict ",
                        "verdict out", "yard", "", "help", "come A"):
            self.assert_no_command(desk, command)
        self.assertIs(desk.live, None)
        self.assert_told(InvalidText, 0, desk.say, "yard ")
        self.assert_no_command(desk, "standing")

    def test_any_value(self):
        for desk in (Desk(), desk_after(*BEGIN)):
            for value in any_values() + strange_papers():
                # This one has the form of a command.
                if value != "in a":
                    self.assert_no_command(desk, value)

    def test_desks_do_not_share(self):
        one, other = desk_after(*BEGIN), desk_after("yard 1 1 1")
        self.assert_same((one.say("standing"), other.say("standing")), ("a d ; b ; c", " ;  ; "))
        self.assertIs(Desk().live, None)
        # What is done to the yard itself is told, too.
        one.live.undo()
        self.assert_same(one.say("standing"), "a ; b ; c")

    def test_limits(self):
        desk, lot = desk_after("yard " + " ".join(["12"] * 12)), names(200)
        with self.within(30):
            for at, box in enumerate(lot[:132]):
                desk.say(f"in {box} {at // 12}")
            for _ in range(700):
                desk.say("move 0 11")
                desk.say("move 11 0")
            self.assert_same(len(desk.live), 132 + 1400)
            text = " ; ".join([f"in {box}" for box in lot[132:144]] + [f"out {box}" for box in lot[132:144]])
            self.assert_same(desk.say("verdict " + text), "possible")
            self.assertEqual(len(desk.say("plan").split(" ; ")), 1532)


if __name__ == "__main__":
    unittest.main()
