"""Points 7 and 8: standings, and their numbers."""

import unittest
from itertools import product
from math import factorial

from staysdeep.errors import InvalidSize, InvalidStanding, NoName
from staysdeep.standings import (
    boxes_above, boxes_of, count_standings, deep_boxes, fillings, free_places, need_standing, place_of,
    standing_at, standing_number, tops,
)
from staysdeep.yards import Yard, deep_places
from tests.helpers import (
    SMALL_YARDS, TALLEST, Checks, all_fillings, all_standings, any_values, every_standing, names,
)


def is_plain_name(value):
    return type(value) is str and len(value) in range(1, 9) and set(value) <= set("abcdefghijklmnopqrstuvwxyz")


def wrong_at(heights, value):
    """What is wrong with a standing: None, -1, or the first wrong stack."""
    if type(value) is not tuple or len(value) != len(heights):
        return -1
    before = []
    for stack, pile in enumerate(value):
        if type(pile) is not tuple or not all(is_plain_name(box) for box in pile) or len(pile) > heights[stack]:
            return stack
        before.extend(pile)
        if len(set(before)) < len(before):
            return stack
    return None


class TestNeedStanding(Checks):

    def check_standing(self, heights, value):
        wrong = wrong_at(heights, value)
        if wrong is None:
            self.assertIsNone(need_standing(Yard(heights), value))
        else:
            self.assert_told(InvalidStanding, wrong, need_standing, Yard(heights), value)

    def test_any_value(self):
        for value in any_values():
            self.check_standing((2, 1, 1), value)

    def test_any_value_as_a_stack_and_as_a_box(self):
        for value in any_values():
            for stack in range(3):
                piles = [("a",), ("b",), ()]
                piles[stack] = value
                self.check_standing((2, 1, 1), tuple(piles))
                self.check_standing((2, 1, 1), piles)
                piles[stack] = (value,)
                self.check_standing((2, 1, 1), tuple(piles))
                piles[stack] = ("c", value)
                self.check_standing((2, 2, 2), tuple(piles))

    def test_names(self):
        for word in ("a", "z", "abcdefgh", "zzzzzzzz", "tuple"):
            self.check_standing((1, 1, 1), ((word,), (), ()))
        for word in ("", "abcdefghi", "a" * 60000, "A", "aB", "a1", "1", "a b", " a", "a\n", "-", "a_", "\u00e9",
                     "\u00df", "\u00aa", "a\u0301", "{", "`", "\u0430"):
            self.assert_told(InvalidStanding, 1, need_standing, Yard((1, 1, 1)), ((), (word,), ()))

    def test_number_of_stacks(self):
        for many in range(6):
            self.check_standing((2, 1, 1), ((),) * many)
            self.check_standing((2, 1, 1, 1), ((),) * many)
        self.assert_told(InvalidStanding, -1, need_standing, Yard((2, 1, 1)), (1, 2))

    def test_too_many_boxes(self):
        for piles in product(((), ("a",), ("b", "c"), ("d", "e", "f")), repeat=3):
            self.check_standing((2, 1, 1), piles)
            self.check_standing((1, 3, 2), piles)

    def test_boxes_twice(self):
        for piles in product((("a",), ("b",), ("a", "b"), ("a", "a"), ("c", "b"), ()), repeat=3):
            self.check_standing((2, 2, 2), piles)

    def test_first_wrong_stack_is_told(self):
        self.assert_told(InvalidStanding, 0, need_standing, Yard((1, 1, 1)), (("a", "b"), 1, ("a",)))
        self.assert_told(InvalidStanding, 1, need_standing, Yard((1, 1, 1)), (("a",), ("a",), None))
        self.assert_told(InvalidStanding, 2, need_standing, Yard((1, 1, 1)), (("a",), ("b",), ["c"]))

    def test_edges(self):
        boxes = names(144)
        full = tuple([boxes[at:at + 12] for at in range(0, 144, 12)])
        self.assertIsNone(need_standing(Yard(TALLEST), full))
        self.assertIsNone(need_standing(Yard(TALLEST), ((),) * 12))
        self.assert_told(InvalidStanding, 11, need_standing, Yard(TALLEST), full[:11] + (full[11][:11] + ("aa",),))

    def test_whatever_takes_a_yard_and_a_standing(self):
        for call in (free_places, deep_boxes, standing_number):
            for value in any_values():
                wrong = wrong_at((1, 1, 1), value)
                if wrong is not None:
                    self.assert_told(InvalidStanding, wrong, call, Yard((1, 1, 1)), value)
            self.assert_told(InvalidStanding, 2, call, Yard((1, 1, 1)), (("a",), ("b",), ("a",)))


class TestOneStanding(Checks):

    def test_all_of_small_yards(self):
        for heights in SMALL_YARDS[:6]:
            yard = Yard(heights)
            for standing in every_standing(heights):
                boxes = [box for pile in standing for box in pile]
                self.assert_same(free_places(yard, standing), sum(heights) - len(boxes))
                self.assert_same(boxes_of(standing), tuple(sorted(boxes)))
                self.assert_same(tops(standing), tuple([(list(pile) or [None])[-1] for pile in standing]))
                deep = [(place, standing[place[0]][place[1]]) for place in deep_places(yard, len(boxes))]
                self.assert_same(deep_boxes(yard, standing), tuple(deep))

    def test_places_of_boxes(self):
        for standing in every_standing((2, 2, 1)):
            for stack, pile in enumerate(standing):
                for level, box in enumerate(pile):
                    self.assert_same(place_of(standing, box), (stack, level))
                    self.assert_same(boxes_above(standing, box), pile[level + 1:])

    def test_names_go_in_the_order_of_python(self):
        self.assert_same(boxes_of((("b", "aa"), ("a",), ("ab", "zzz", "z"))), ("a", "aa", "ab", "b", "z", "zzz"))

    def test_a_box_that_is_not_there(self):
        for standing in (((), (), ()), (("a", "b"), ("c",), ()), (("ab",), ("ba",), ())):
            for box in ("d", "bb", "abcdefgh"):
                self.assert_told(NoName, box, place_of, standing, box)
                self.assert_told(NoName, box, boxes_above, standing, box)

    def test_no_box_and_a_full_yard(self):
        yard = Yard((2, 1, 1))
        empty, full = ((), (), ()), (("d", "c"), ("b",), ("a",))
        self.assert_same((free_places(yard, empty), boxes_of(empty), tops(empty)), (4, (), (None, None, None)))
        self.assert_same((free_places(yard, full), tops(full)), (0, ("c", "b", "a")))
        self.assert_same(deep_boxes(yard, empty), ())
        self.assert_same(deep_boxes(yard, full), (((0, 0), "d"), ((0, 1), "c"), ((1, 0), "b"), ((2, 0), "a")))


class TestNumbers(Checks):

    def test_counts_of_small_yards(self):
        for heights in SMALL_YARDS + ((3, 3, 3), (4, 1, 2), (1, 5, 1)):
            for boxes in range(sum(heights) + 1):
                many = len(all_fillings(heights, boxes))
                self.assert_same(fillings(Yard(heights), boxes), many)
                self.assert_same(count_standings(Yard(heights), boxes), many * factorial(boxes))

    def test_as_many_for_the_other_places(self):
        for heights in ((12, 1, 1), (5, 7, 2, 9), TALLEST, (1,) * 12):
            total = sum(heights)
            counts = [fillings(Yard(heights), boxes) for boxes in range(total + 1)]
            self.assertEqual(counts, counts[::-1])
            self.assertEqual((counts[0], counts[-1]), (1, 1))
            product_of_all = 1
            for height in heights:
                product_of_all *= height + 1
            self.assertEqual(sum(counts), product_of_all)

    def test_no_such_number_of_boxes(self):
        for call in (fillings, count_standings):
            for boxes in (-1, -4, 5, 6, 10 ** 30):
                self.assert_told(InvalidSize, "boxes", call, Yard((2, 1, 1)), boxes)

    def test_there_and_back_in_small_yards(self):
        for heights in SMALL_YARDS:
            yard = Yard(heights)
            for boxes in range(min(sum(heights), 5) + 1):
                lot = ("a", "aa", "b", "x", "xy", "z")[:boxes]
                standings = all_standings(heights, lot)
                self.assertEqual(len(standings), count_standings(yard, boxes))
                for number, standing in enumerate(standings):
                    self.assert_same(standing_at(yard, lot, number), standing)
                    self.assert_same(standing_number(yard, standing), number)
                for number in (-1, -len(standings), len(standings), len(standings) + 1, 10 ** 200):
                    self.assert_told(InvalidSize, "number", standing_at, yard, lot, number)

    def test_boxes_come_before_number(self):
        for number in (0, -1, 10 ** 9):
            self.assert_told(InvalidSize, "boxes", standing_at, Yard((2, 1, 1)), tuple("abcde"), number)

    def test_numbers_of_200_figures(self):
        with self.within(20):
            for many in (100, 130, 144):
                yard, lot = Yard(TALLEST), names(many)
                last = count_standings(yard, many) - 1
                for number in (0, 1, last // 3, last // 10 ** 20, last - 1, last):
                    standing = standing_at(yard, lot, number)
                    self.assertIsNone(need_standing(yard, standing))
                    self.assertEqual(boxes_of(standing), lot)
                    self.assertEqual(standing_number(yard, standing), number)
                self.assertGreater(last, 10 ** 200 if many > 100 else 10 ** 150)
                self.assert_told(InvalidSize, "number", standing_at, yard, lot, last + 1)
            number = 10 ** 199 + 7
            self.assertEqual(standing_number(yard, standing_at(yard, lot, number)), number)

    def test_first_and_last_of_the_tallest_yard(self):
        yard, lot = Yard(TALLEST), names(144)
        last = standing_at(yard, lot, count_standings(yard, 144) - 1)
        self.assertEqual([box for pile in last for box in pile], list(reversed(lot)))
        self.assertEqual(standing_at(yard, lot[:3], 0), ((),) * 11 + (lot[:3],))


if __name__ == "__main__":
    unittest.main()
