"""Point 9: moves and walks."""

import unittest
from itertools import product

from staysdeep.errors import InvalidMove, InvalidStanding
from staysdeep.moves import bare_walk, lifted, moved, moves_from, walk_back, walk_standings, walked
from staysdeep.standings import deep_boxes
from staysdeep.yards import Yard
from tests.helpers import TALLEST, Checks, any_values, every_standing, names, plain_move, plain_walk

YARDS = ((2, 1, 1), (1, 2, 2), (1, 1, 1, 1))
WALKERS = (walked, walk_standings, lifted)
THREE_STACKS = [(stack, other) for stack in range(3) for other in range(3) if stack != other]


def plain_bare(walk, last_first):
    """The moves put together one pair after another, from either end."""
    walk = list(walk)
    while True:
        joints = [at for at in range(len(walk) - 1) if walk[at][1] == walk[at + 1][0]]
        if not joints:
            return tuple(walk)
        at = joints[-1 if last_first else 0]
        begin, end = walk[at][0], walk[at + 1][1]
        walk[at:at + 2] = [] if begin == end else [(begin, end)]


class TestWalks(Checks):

    def check_walk(self, heights, standing, walk):
        yard, found = Yard(heights), plain_walk(heights, standing, walk)
        if isinstance(found, int):
            for call in WALKERS:
                self.assert_told(InvalidMove, found, call, yard, standing, walk)
            return
        way, boxes = found
        self.assert_same(walk_standings(yard, standing, walk), tuple(way))
        self.assert_same(walked(yard, standing, walk), way[-1])
        self.assert_same(lifted(yard, standing, walk), tuple(sorted(set(boxes))))

    def test_moves_of_small_yards(self):
        for heights in YARDS:
            yard, stacks = Yard(heights), range(-1, len(heights) + 1)
            for standing in every_standing(heights):
                can = []
                for move in product(stacks, repeat=2):
                    behind = plain_move(heights, standing, move)
                    if behind is None:
                        self.assert_told(InvalidMove, 0, moved, yard, standing, move)
                    else:
                        can.append(move)
                        self.assert_same(moved(yard, standing, move), behind)
                self.assert_same(moves_from(yard, standing), tuple(can))

    def test_walks_of_small_yards(self):
        for heights, standing in (((2, 1, 1), (("a", "b"), ("c",), ())), ((2, 2, 1), (("a",), ("c", "b"), ())),
                                  ((1, 1, 1), (("b",), ("a",), ())), ((2, 1, 1), (("a",), (), ()))):
            for length in range(5):
                for walk in product(THREE_STACKS, repeat=length):
                    self.check_walk(heights, standing, walk)

    def test_all_standings_by_walks_of_two(self):
        for standing in every_standing((2, 1, 1)):
            for walk in product(THREE_STACKS, repeat=2):
                self.check_walk((2, 1, 1), standing, walk)

    def test_the_empty_walk(self):
        for standing in every_standing((1, 1, 1)):
            self.check_walk((1, 1, 1), standing, ())

    def test_no_box_and_a_full_yard(self):
        empty, full = ((), (), ()), (("a", "b"), ("c",), ("d",))
        for standing in (empty, full):
            self.assert_same(moves_from(Yard((2, 1, 1)), standing), ())
            for move in THREE_STACKS:
                self.check_walk((2, 1, 1), standing, (move,))
                self.assert_told(InvalidMove, 0, moved, Yard((2, 1, 1)), standing, move)

    def test_what_is_no_tuple(self):
        for value in any_values():
            if not isinstance(value, tuple):
                for call in WALKERS:
                    self.assert_told(InvalidMove, -1, call, Yard((2, 1, 1)), (("a",), (), ()), value)
        for call in WALKERS:
            self.assert_told(InvalidMove, -1, call, Yard((2, 1, 1)), (("a",), (), ()), [(0, 1)])

    def test_any_value_as_a_move_and_as_a_stack(self):
        heights, standing = (2, 1, 1), (("a", "b"), ("c",), ())
        for value in any_values():
            for move in (value, (value, 1), (0, value), (1, 2, value), (value,), [0, 2]):
                behind = plain_move(heights, standing, move)
                if behind is None:
                    self.assert_told(InvalidMove, 0, moved, Yard(heights), standing, move)
                self.check_walk(heights, standing, (move, (0, 2)))
                self.check_walk(heights, standing, ((0, 2), move))
            if isinstance(value, tuple):
                self.check_walk(heights, standing, value)

    def test_bools_are_no_stacks(self):
        for move in ((True, 2), (0, True), (False, 2), (1, False), (True, False)):
            self.assert_told(InvalidMove, 0, moved, Yard((2, 2, 1)), (("a",), ("b",), ()), move)
            self.assert_told(InvalidMove, 1, walked, Yard((2, 2, 1)), (("a",), ("b",), ()), ((0, 2), move))

    def test_numbers_below_0_are_no_stacks(self):
        for move in ((0, -1), (-3, 2), (-1, -2)):
            self.assert_told(InvalidMove, 0, moved, Yard((2, 2, 1)), (("a",), ("b",), ()), move)

    def test_the_first_wrong_move_is_told(self):
        yard, standing = Yard((2, 1, 1)), (("a", "b"), ("c",), ())
        for call in WALKERS:
            self.assert_told(InvalidMove, 1, call, yard, standing, ((0, 2), (0, 2), None))
            self.assert_told(InvalidMove, 1, call, yard, standing, ((0, 2), None, (0, 2)))
            self.assert_told(InvalidMove, 2, call, yard, standing, ((0, 2), (2, 0), (2, 1)))

    def test_the_standing_comes_first(self):
        for call in WALKERS + (moved,):
            for value in any_values():
                self.assert_told(InvalidStanding, -1, call, Yard((2, 1, 1)), [(), (), ()], value)
                self.assert_told(InvalidStanding, 1, call, Yard((2, 1, 1)), ((), ("a", "b"), ()), value)
        for value in (None, [(), (), ()], ((), ()), "abc"):
            self.assert_told(InvalidStanding, -1, moves_from, Yard((2, 1, 1)), value)
        self.assert_told(InvalidStanding, 2, moves_from, Yard((2, 1, 1)), (("a",), (), ("a",)))

    def test_no_walk_moves_a_deep_box(self):
        for heights in YARDS:
            yard = Yard(heights)
            for standing in every_standing(heights):
                deep = deep_boxes(yard, standing)
                for move in moves_from(yard, standing):
                    self.assertEqual(deep_boxes(yard, moved(yard, standing, move)), deep)
                    box, = lifted(yard, standing, (move,))
                    self.assertNotIn(box, [kept for _, kept in deep])

    def test_twelve_high_stacks(self):
        boxes = names(143)
        full = tuple([boxes[at:at + 12] for at in range(0, 144, 12)])
        self.assert_same(moves_from(Yard(TALLEST), full), tuple([(stack, 11) for stack in range(11)]))
        self.check_walk(TALLEST, full, ((10, 11), (0, 10), (11, 0)))

    def test_a_walk_of_5000_moves(self):
        boxes = names(130)
        standing = tuple([boxes[at:at + 12] for at in range(0, 132, 12)]) + ((),)
        walk = ((0, 11), (1, 0), (2, 1), (11, 2)) * 1250
        with self.within(10):
            self.check_walk(TALLEST, standing, walk)
            self.check_walk(TALLEST, standing, walk[:-1] + ((0, 1),))
            self.assert_same(walked(Yard(TALLEST), walked(Yard(TALLEST), standing, walk), walk_back(walk)), standing)
            self.assertEqual(bare_walk(walk), walk)
            self.assertEqual(bare_walk(walk + walk_back(walk)), ())


class TestWalkBackAndBareWalk(Checks):

    def test_back_from_the_definition(self):
        for length in range(4):
            for walk in product(THREE_STACKS, repeat=length):
                back = tuple([(walk[-at][1], walk[-at][0]) for at in range(1, length + 1)])
                self.assert_same(walk_back(walk), back)
                self.assert_same(walk_back(back), walk)

    def test_back_leads_home(self):
        yard, start = Yard((2, 1, 1)), (("a", "b"), ("c",), ())
        for length in range(5):
            for walk in product(THREE_STACKS, repeat=length):
                if not isinstance(plain_walk(yard.heights, start, walk), int):
                    self.assertEqual(walked(yard, walked(yard, start, walk), walk_back(walk)), start)

    def test_bare_from_the_definition(self):
        for length in range(6):
            for walk in product(THREE_STACKS, repeat=length):
                bare = bare_walk(walk)
                self.assertEqual(bare, plain_bare(walk, False))
                self.assertEqual(bare, plain_bare(walk, True))
                self.assertIs(type(bare), tuple)
                self.assertTrue(all(type(move) is tuple for move in bare))

    def test_bare_in_four_stacks(self):
        moves = [(stack, other) for stack in range(4) for other in range(4) if stack != other]
        for walk in product(moves, repeat=4):
            self.assert_same(bare_walk(walk), plain_bare(walk, True))

    def test_bare_can_be_done_and_leads_to_the_same(self):
        heights, start = (2, 1, 1), (("a",), ("b",), ())
        for length in range(6):
            for walk in product(THREE_STACKS, repeat=length):
                found = plain_walk(heights, start, walk)
                if not isinstance(found, int):
                    way, boxes = plain_walk(heights, start, bare_walk(walk))
                    self.assertEqual(way[-1], found[0][-1])
                    self.assertTrue(all(one != other for one, other in zip(boxes, boxes[1:])))

    def test_any_numbers(self):
        walk = ((1000, 0), (0, 999), (7, 12), (12, 7), (999, 1000), (13, 14), (14, 13))
        self.assert_same(bare_walk(walk), ())
        self.assert_same(walk_back(walk[:3]), ((12, 7), (999, 0), (0, 1000)))
        self.assert_same(bare_walk(walk[:3]), ((1000, 999), (7, 12)))

    def test_the_empty_walk(self):
        self.assert_same((walk_back(()), bare_walk(())), ((), ()))


if __name__ == "__main__":
    unittest.main()
