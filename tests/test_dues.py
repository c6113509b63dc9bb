"""Point 32: boxes that are due, an order that keeps the dues, and crowds."""

import random
import unittest
from itertools import permutations, product

from staysdeep.dues import Crowd, check_dues, due_order
from staysdeep.errors import InvalidSize, InvalidStanding, NoName, Refused
from staysdeep.yards import Yard, places
from tests.helpers import (
    TALLEST, WRONG_STANDINGS, Checks, any_values, drawn_standing, drawn_yard, every_standing, names, strange_papers,
)
from tests.test_goings import boxes_in, plain_wait

YARD, STANDING = Yard((2, 1, 1)), (("a", "b"), ("c",), ("d",))


def keeps(heights, standing, dues, row):
    """Whether goings of all boxes can be done and keep the dues, from the definition."""
    table = dict(dues)
    for at, box in enumerate(row):
        if plain_wait(heights, standing, box) > at or at + 1 > table.get(box, at + 1):
            return False
    return True


def plain_order(heights, standing, dues):
    """Each time the box that is due first goes, of those that can; and whether none goes too late."""
    table, left, row, good = dict(dues), boxes_in(standing), [], True
    while left:
        can = [box for box in left if plain_wait(heights, standing, box) <= len(row)]
        box = min(can, key=lambda name: (table.get(name, 10 ** 9), name))
        row.append(box)
        left.remove(box)
        good = good and len(row) <= table.get(box, len(row))
    return tuple(row), good


def plain_crowds(heights, standing, dues, most):
    """All crowds whose end is at most so great, by the first number, then by the end."""
    told = []
    for first in range(most + 1):
        for end in range(first, most + 1):
            boxes = [box for box, due in dues if due <= end and plain_wait(heights, standing, box) >= first]
            if len(boxes) > end - first:
                told.append((first, end, tuple(sorted(boxes))))
    return told


def some_dues(seed, many):
    """Triples of heights, a standing and dues."""
    draw, told = random.Random(seed), []
    for heights in ((1, 1, 1), (2, 1, 1), (1, 3, 1), (2, 2, 1), (4, 1, 1)):
        standings = every_standing(heights)
        for _ in range(many):
            standing = draw.choice(standings[len(standings) // 6:])
            boxes = boxes_in(standing)
            lot = draw.sample(boxes, draw.randrange(len(boxes) + 1))
            told.append((heights, standing, tuple([(box, draw.randrange(1, len(boxes) + 2)) for box in lot])))
    return told


class TestCrowd(Checks):

    def test_equality_and_attributes(self):
        one = Crowd(1, 2, ("a",))
        self.assertTrue(one == Crowd(first=1, end=2, boxes=("a",)))
        for other in (Crowd(0, 2, ("a",)), Crowd(1, 3, ("a",)), Crowd(1, 2, ("b",))):
            self.assertFalse(one == other)
            self.assertTrue(one != other)
        for value in any_values() + [(1, 2, ("a",))]:
            self.assertFalse(one == value)
            crowd = Crowd(value, [value], (value,))
            self.assertIs(crowd.first, value)
            self.assertIs(crowd.end[0], value)
            self.assertIs(crowd.boxes[0], value)
        self.assertEqual(vars(Crowd(1, 2, 3)), {"first": 1, "end": 2, "boxes": 3})
        self.assertIn("__eq__", vars(Crowd))


class TestDueOrder(Checks):

    def check_order(self, heights, standing, dues):
        yard, found = Yard(heights), due_order(Yard(heights), standing, dues)
        row, good = plain_order(heights, standing, dues)
        if good:
            self.assert_same(found, row)
        else:
            self.assertIs(type(found), Crowd)
            wanted = plain_crowds(heights, standing, dues, len(row) + 12)[0]
            self.assert_same((found.first, found.end, found.boxes), wanted)
        self.assertIs(check_dues(yard, standing, dues, found), True)
        return good

    def test_all_orders_of_goings(self):
        told = []
        for heights, standing, dues in some_dues(90, 100):
            rows = [row for row in permutations(boxes_in(standing)) if keeps(heights, standing, dues, row)]
            told.append(self.check_order(heights, standing, dues))
            self.assertIs(told[-1], len(rows) > 0)
            self.assertIs(len(plain_crowds(heights, standing, dues, 12)) == 0, len(rows) > 0)
        self.assertGreater(told.count(True), 50)
        self.assertGreater(told.count(False), 50)

    def test_all_dues_of_one_standing(self):
        for row in product((None, 1, 2, 3), repeat=4):
            dues = tuple([(box, due) for box, due in zip("abcd", row) if due])
            self.check_order((2, 1, 1), STANDING, dues)
            self.check_order((1, 1, 3), (("d",), ("c",), ("a", "b")), dues)
            self.check_order((4, 1, 1), (("d", "c", "b", "a"), (), ()), dues)

    def test_the_order(self):
        # Equal dues by name, and whoever has none behind all that have.
        self.assert_same(due_order(YARD, STANDING, ()), ("b", "a", "c", "d"))
        self.assert_same(due_order(YARD, STANDING, (("d", 4), ("c", 4))), ("c", "d", "a", "b"))
        self.assert_same(due_order(YARD, STANDING, (("d", 1000),)), ("d", "a", "b", "c"))
        self.assert_same(due_order(yard=YARD, standing=STANDING, dues=(("a", 2), ("d", 1))), ("d", "a", "b", "c"))
        self.assert_same(due_order(YARD, ((), (), ()), ()), ())

    def test_crowds(self):
        found = due_order(YARD, STANDING, (("a", 1),))
        self.assertEqual(found, Crowd(1, 1, ("a",)))
        found = due_order(YARD, STANDING, (("d", 2), ("c", 1), ("b", 2)))
        self.assertEqual(found, Crowd(0, 2, ("b", "c", "d")))
        found = due_order(YARD, STANDING, (("d", 1), ("c", 1)))
        self.assertEqual(found, Crowd(0, 1, ("c", "d")))
        # A box alone that waits longer than it is given.
        self.assertEqual(due_order(Yard((4, 1, 1)), (("a", "b", "c", "d"), ("e",), ("f",)), (("a", 2),)), Crowd(2, 2, ("a",)))

    def test_yards_of_all_kinds(self):
        draw, told = random.Random(91), []
        with self.within(20):
            for _ in range(80):
                yard = drawn_yard(draw, heights=(1, 2, 3, 6, 12))
                standing = drawn_standing(draw, yard, places(yard) - draw.randrange(min(3, places(yard))))
                boxes = boxes_in(standing)
                row = sorted(boxes, key=lambda box: (plain_wait(yard.heights, standing, box), draw.random()))
                late = draw.choice((0, 0, 1, 2))
                dues = [(box, max(1, at + 1 - late)) for at, box in enumerate(row) if draw.random() < 0.7]
                draw.shuffle(dues)
                told.append(self.check_order(yard.heights, standing, tuple(dues)))
        self.assertEqual(set(told), {True, False})

    def test_the_tallest_yard(self):
        lot = names(144)
        standing = tuple([lot[at:at + 12] for at in range(0, 144, 12)])
        with self.within(10):
            for dues in (tuple([(box, 1000) for box in lot]), tuple([(box, 12) for box in lot[:12]]),
                         tuple([(box, 11) for box in lot[:12]]), tuple([(box, 144 - at) for at, box in enumerate(lot)])):
                found = due_order(Yard(TALLEST), standing, dues)
                self.assertIs(check_dues(Yard(TALLEST), standing, dues, found), True)
                self.assertIs(type(found) is tuple, plain_order(TALLEST, standing, dues)[1])

    def test_wrong_dues(self):
        for call, rest in ((due_order, ()), (check_dues, (None,)), (check_dues, (("b", "a", "c", "d"),))):
            for dues, error, kept in (
                ((("e", 1),), NoName, "e"), ((("a", 0),), InvalidSize, "due"), ((("a", -5),), InvalidSize, "due"),
                ((("a", 1), ("a", 1)), Refused, "dues"), ((("a", 2), ("a", 0)), Refused, "dues"),
                ((("a", 2), ("e", 0)), NoName, "e"), ((("a", 0), ("e", 1)), InvalidSize, "due"),
                ((("a", 3), ("b", 1), ("b", 1), ("e", 1)), Refused, "dues"), ((("e", 0), ("a", 0)), NoName, "e"),
                ((("a", 3), ("b", 1), ("c", 0), ("b", 1)), InvalidSize, "due"),
            ):
                self.assert_told(error, kept, call, YARD, STANDING, dues, *rest)
            for value, at in WRONG_STANDINGS:
                self.assert_told(InvalidStanding, at, call, YARD, value, (("e", 0),), *rest)


class TestCheckDues(Checks):

    def test_all_orders(self):
        for heights, standing, dues in some_dues(92, 15):
            for row in permutations(boxes_in(standing)):
                right = keeps(heights, standing, dues, row)
                self.assertIs(check_dues(Yard(heights), standing, dues, row), right)
            self.assertIs(check_dues(Yard(heights), standing, dues, list(row)), False)

    def test_orders_of_another_form(self):
        good = ("b", "a", "c", "d")
        self.assertIs(check_dues(YARD, STANDING, (), good), True)
        for value in (good[:3], good + ("a",), good + ("e",), good[:3] + ("e",), good[:3] + ("b",), list(good), "bacd",
                      ("b", "a", "c", None), ("b", "a", "c", ["d"]), (), None, ("b", "a", "c", True), ("b", "b", "b", "b")):
            self.assertIs(check_dues(YARD, STANDING, (), value), False)
        self.assertIs(check_dues(YARD, ((), (), ()), (), ()), True)
        self.assertIs(check_dues(YARD, ((), (), ()), (), []), False)

    def test_all_crowds(self):
        seen = 0
        for heights, standing, dues in some_dues(93, 80):
            crowds = plain_crowds(heights, standing, dues, 8)
            seen += len(crowds)
            for first, end, boxes in crowds:
                self.assertIs(check_dues(Yard(heights), standing, dues, Crowd(first, end, boxes)), True)
            for first in range(-1, 6):
                for end in range(-1, 7):
                    lot = [box for box, due in dues if due <= end and plain_wait(heights, standing, box) >= first]
                    value = Crowd(first, end, tuple(sorted(lot)))
                    right = (first, end, value.boxes) in crowds
                    self.assertIs(check_dues(Yard(heights), standing, dues, value), right)
        self.assertGreater(seen, 100)

    def test_crowds_of_another_form(self):
        dues = (("d", 1), ("c", 1))
        self.assertIs(check_dues(YARD, STANDING, dues, Crowd(0, 1, ("c", "d"))), True)
        for value in (Crowd(False, 1, ("c", "d")), Crowd(0, True, ("c", "d")), Crowd(0, 1, ["c", "d"]), Crowd(0, 1, ("d", "c")),
                      Crowd(0, 1, ("c",)), Crowd(0, 1, ("c", "d", "d")), Crowd(0, 1, None), Crowd(None, 1, ("c", "d")),
                      Crowd(0, "1", ("c", "d")), Crowd(-1, 1, ("c", "d")), Crowd(0, 2, ("c", "d")), Crowd(1, 0, ()),
                      Crowd(0, 0, ()), (0, 1, ("c", "d")), Crowd(10 ** 30, 10 ** 30, ()), Crowd(0, 10 ** 30, ("c", "d"))):
            self.assertIs(check_dues(YARD, STANDING, dues, value), False)

    def test_numbers_below_0(self):
        dues = (("d", 1), ("c", 1), ("b", 1))
        self.assertIs(check_dues(YARD, STANDING, dues, Crowd(0, 1, ("b", "c", "d"))), True)
        self.assertIs(check_dues(YARD, STANDING, dues, Crowd(-1, 1, ("b", "c", "d"))), False)
        self.assertIs(check_dues(YARD, STANDING, dues, Crowd(-2, -1, ())), False)

    def test_any_value(self):
        for value in any_values() + strange_papers():
            self.assertIs(check_dues(yard=YARD, standing=STANDING, dues=(("a", 1),), value=value), False)
            for paper in (Crowd(value, 1, ("a",)), Crowd(1, value, ("a",)), Crowd(1, 1, value), (value, "a", "c", "d")):
                right = isinstance(paper, Crowd) and paper == Crowd(1, 1, ("a",)) and not isinstance(value, bool)
                self.assertIs(check_dues(YARD, STANDING, (("a", 1),), paper), right)


if __name__ == "__main__":
    unittest.main()
