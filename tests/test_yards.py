"""Points 5 and 6: yards, places and deep places."""

import unittest
from itertools import product

from staysdeep.errors import InvalidSize, InvalidYard
from staysdeep.yards import Yard, cover_of, deep_count, deep_places, deep_row, layer, others, places
from tests.helpers import SMALL_YARDS, TALLEST, Checks, all_fillings, any_values

EDGE_YARDS = ((1, 1, 1), (12, 12, 12), (1,) * 12, TALLEST, (12, 1, 1), (1, 12, 5, 3))


def wrong_at(value):
    """What is wrong with heights: None, -1, or the first wrong thing."""
    if type(value) not in (list, tuple) or len(value) not in range(3, 13):
        return -1
    wrong = [at for at, thing in enumerate(value) if type(thing) is not int or thing not in range(1, 13)]
    return wrong[0] if wrong else None


def all_places(heights):
    return [(stack, level) for stack, height in enumerate(heights) for level in range(height)]


class TestYard(Checks):

    def check_heights(self, value):
        wrong = wrong_at(value)
        if wrong is None:
            self.assert_same(Yard(value).heights, tuple(value))
        else:
            self.assert_told(InvalidYard, wrong, Yard, value)

    def test_any_value(self):
        for value in any_values():
            self.check_heights(value)

    def test_rows_of_any_values(self):
        for things in product(any_values(), repeat=2):
            self.check_heights((1,) + things)
            self.check_heights(list(things) + [12])

    def test_number_of_stacks(self):
        for many in range(16):
            self.check_heights((1,) * many)
            self.check_heights([12] * many)

    def test_heights_from_1_to_12(self):
        for height in range(-2, 16):
            self.check_heights((height, 1, 1))
            self.check_heights([3, 2, height])

    def test_number_of_stacks_comes_first(self):
        self.assert_told(InvalidYard, -1, Yard, (0, 0))
        self.assert_told(InvalidYard, -1, Yard, (True,) * 13)

    def test_first_wrong_height_is_told(self):
        self.assert_told(InvalidYard, 1, Yard, (2, 0, 13, None))
        self.assert_told(InvalidYard, 0, Yard, [True, 0, 1])
        self.assert_told(InvalidYard, 11, Yard, (12,) * 11 + ("1",))

    def test_heights_are_kept_as_a_tuple_of_its_own(self):
        heights = [2, 1, 1]
        yard = Yard(heights)
        heights[0] = 5
        self.assert_same(yard.heights, (2, 1, 1))
        self.assertEqual(heights, [5, 1, 1])
        self.assertEqual(vars(Yard(heights=(2, 1, 1))), {"heights": (2, 1, 1)})

    def test_equality(self):
        self.assertIs(Yard((2, 1, 1)) == Yard([2, 1, 1]), True)
        self.assertIs(Yard((2, 1, 1)) != Yard([2, 1, 1]), False)
        for other in (Yard((1, 2, 1)), Yard((2, 1, 1, 1)), Yard((2, 1, 2))):
            self.assertIs(Yard((2, 1, 1)) == other, False)
            self.assertIs(Yard((2, 1, 1)) != other, True)

    def test_equal_to_nothing_of_another_class(self):
        class Alike:
            heights = (1, 1, 1)

        for value in any_values() + [Alike(), (1, 1, 1), [1, 1, 1]]:
            if not isinstance(value, Yard):
                self.assertIs(Yard((1, 1, 1)) == value, False)
                self.assertIs(value == Yard((1, 1, 1)), False)

    def test_no_iteration_and_no_length(self):
        yard = Yard((2, 1, 1))
        self.assertRaises(TypeError, iter, yard)
        self.assertRaises(TypeError, len, yard)


class TestPlaces(Checks):

    def test_numbers_and_covers(self):
        for heights in SMALL_YARDS + EDGE_YARDS:
            yard = Yard(heights)
            told = all_places(heights)
            self.assert_same(places(yard), len(told))
            for stack in range(len(heights)):
                self.assert_same(others(yard, stack), len([place for place in told if place[0] != stack]))
            for stack, level in told:
                above = [place for place in told if place[0] == stack and place[1] > level]
                self.assert_same(cover_of(yard, stack, level), len(above))

    def test_layers(self):
        for heights in SMALL_YARDS + EDGE_YARDS:
            yard = Yard(heights)
            for cover in range(15):
                want = [place for place in all_places(heights) if cover_of(yard, *place) == cover]
                self.assert_same(layer(yard, cover), tuple(sorted(want)))

    def test_a_cover_that_no_place_has(self):
        self.assert_same(layer(Yard((2, 1, 1)), 2), ())
        self.assert_same(layer(Yard(TALLEST), 12), ())
        self.assert_same(layer(Yard((2, 1, 1)), 1000), ())

    def test_no_such_stack(self):
        yard = Yard((3, 2, 1))
        for stack in (-1, -3, 3, 12, 10 ** 30, -10 ** 30):
            self.assert_told(InvalidSize, "stack", others, yard, stack)
            self.assert_told(InvalidSize, "stack", cover_of, yard, stack, 0)

    def test_no_such_level(self):
        yard = Yard((3, 2, 1))
        for stack, height in enumerate(yard.heights):
            for level in (-1, -height, height, height + 1, 10 ** 30):
                self.assert_told(InvalidSize, "level", cover_of, yard, stack, level)

    def test_stack_comes_before_level(self):
        for stack in (-1, 3):
            for level in (-1, 12):
                self.assert_told(InvalidSize, "stack", cover_of, Yard((3, 2, 1)), stack, level)


class TestDeepPlaces(Checks):

    def test_from_the_definition(self):
        for heights in SMALL_YARDS + EDGE_YARDS:
            yard = Yard(heights)
            for boxes in range(sum(heights) + 1):
                free = sum(heights) - boxes
                deep = [place for place in all_places(heights) if heights[place[0]] - 1 - place[1] >= free]
                row = [len([place for place in deep if place[0] == stack]) for stack in range(len(heights))]
                self.assert_same(deep_places(yard, boxes), tuple(deep))
                self.assert_same(deep_row(yard, boxes), tuple(row))
                self.assert_same(deep_count(yard, boxes), len(deep))

    def test_the_lowest_ones_as_many_as_the_others_do_not_hold(self):
        for heights in SMALL_YARDS + EDGE_YARDS:
            yard = Yard(heights)
            for boxes in range(sum(heights) + 1):
                row = [max(0, boxes - others(yard, stack)) for stack in range(len(heights))]
                self.assert_same(deep_row(yard, boxes), tuple(row))

    def test_a_further_box_makes_a_layer_deep(self):
        for heights in SMALL_YARDS + EDGE_YARDS:
            yard = Yard(heights)
            for boxes in range(sum(heights)):
                more = set(deep_places(yard, boxes + 1)) - set(deep_places(yard, boxes))
                self.assertEqual(tuple(sorted(more)), layer(yard, sum(heights) - boxes - 1))

    def test_never_empty_and_only_they(self):
        for heights in SMALL_YARDS:
            for boxes in range(sum(heights) + 1):
                fillings = all_fillings(heights, boxes)
                never_empty = [(stack, level) for stack, level in all_places(heights)
                               if all(row[stack] > level for row in fillings)]
                self.assert_same(deep_places(Yard(heights), boxes), tuple(never_empty))

    def test_no_box_and_a_full_yard(self):
        for heights in SMALL_YARDS + EDGE_YARDS:
            yard = Yard(heights)
            self.assert_same(deep_places(yard, 0), ())
            self.assert_same(deep_row(yard, 0), (0,) * len(heights))
            self.assert_same(deep_count(yard, 0), 0)
            self.assert_same(deep_places(yard, sum(heights)), tuple(all_places(heights)))
            self.assert_same(deep_row(yard, sum(heights)), heights)
            self.assert_same(deep_count(yard, sum(heights)), sum(heights))

    def test_no_such_number_of_boxes(self):
        for call in (deep_places, deep_row, deep_count):
            for boxes in (-1, -4, 5, 100, 10 ** 30):
                self.assert_told(InvalidSize, "boxes", call, Yard((2, 1, 1)), boxes)


if __name__ == "__main__":
    unittest.main()
