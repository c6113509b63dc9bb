"""Points 46 to 48: wagons that are turned about by each move, and walks that turn just some of them."""

import random
import unittest
from functools import lru_cache
from itertools import combinations

from staysdeep.classes import class_size, same_class
from staysdeep.errors import InvalidMove, InvalidSize, InvalidStanding, NoName, Refused
from staysdeep.wagons import can_turn, count_turnings, fewest_turns, spin_walk, turn_walk, turned_by, walk_parity
from staysdeep.yards import Yard, deep_count, places
from tests.helpers import (
    TALLEST, WRONG_STANDINGS, Checks, all_standings, any_values, drawn_standing, names, plain_deep, plain_move,
    plain_walk, strange_papers,
)
from tests.onward import boxes_in

YARD = Yard((2, 1, 1))
STANDING = (("a", "b"), ("c",), ())


@lru_cache(maxsize=None)
def plain_turnings(heights, start):
    """All pairs of a standing and a lot of turned boxes that this one can become, each with the fewest moves to it."""
    moves = [(stack, other) for stack in range(len(heights)) for other in range(len(heights)) if stack != other]
    known, level, many = {(start, ()): 0}, [(start, ())], 0
    while level:
        many, further = many + 1, []
        for standing, lot in level:
            for move in moves:
                behind = plain_move(heights, standing, move)
                if behind is not None:
                    pair = (behind, tuple(sorted(set(lot) ^ {standing[move[0]][-1]})))
                    if pair not in known:
                        known[pair] = many
                        further.append(pair)
        level = further
    return known


def all_lots_of(boxes):
    return [lot for many in range(len(boxes) + 1) for lot in combinations(sorted(boxes), many)]


def odd_boxes(heights, standing, walk):
    """(the standing behind a walk, the lot of the boxes that are moved an odd number of times)."""
    way, boxes = plain_walk(heights, standing, walk)
    return way[-1], tuple(sorted({box for box in boxes if boxes.count(box) % 2}))


def drawn_alike(draw, heights, standing):
    """Some standing of the same class, by way of a drawn walk."""
    now = standing
    for _ in range(6 * sum(heights)):
        moves = [(stack, other) for stack in range(len(heights)) for other in range(len(heights))]
        behind = [plain_move(heights, now, move) for move in moves if plain_move(heights, now, move) is not None]
        now = draw.choice(behind) if behind else now
    return now


# Yards and numbers of boxes that are gone through whole.
CASES = (((1, 1, 1), 0), ((1, 1, 1), 1), ((1, 1, 1), 2), ((1, 1, 1), 3), ((2, 1, 1), 1), ((2, 1, 1), 2), ((2, 1, 1), 3),
         ((2, 1, 1), 4), ((1, 2, 2), 2), ((1, 2, 2), 4), ((1, 3, 1), 3), ((1, 3, 1), 4), ((1, 1, 1, 1), 3), ((4, 1, 1), 3),
         ((1, 1, 1, 1), 2))


class TestTurned(Checks):

    def test_drawn_walks(self):
        draw = random.Random(300)
        for heights in ((1, 1, 1), (2, 1, 1), (1, 3, 2), (4, 4, 4), (12, 1, 5), (1,) * 12):
            for boxes in range(0, sum(heights), 1 + sum(heights) // 5):
                standing = drawn_standing(draw, Yard(heights), boxes)
                now, walk = standing, []
                for _ in range(draw.randrange(30)):
                    moves = [(one, other) for one in range(len(heights)) for other in range(len(heights))
                             if plain_move(heights, now, (one, other)) is not None]
                    walk += [draw.choice(moves)] if moves else []
                    now = plain_move(heights, now, walk[-1]) if moves else now
                turned = turned_by(Yard(heights), standing, tuple(walk))
                self.assert_same(turned, odd_boxes(heights, standing, walk)[1])
                self.assertEqual(len(turned) % 2, len(walk) % 2)

    def test_ends(self):
        self.assert_same(turned_by(YARD, STANDING, ()), ())
        self.assert_same(turned_by(yard=YARD, standing=STANDING, walk=((1, 2),)), ("c",))
        self.assert_same(turned_by(YARD, STANDING, ((1, 2), (2, 1))), ())
        self.assert_same(turned_by(Yard((1, 1, 1)), (("a",), ("b",), ()), ((1, 2), (0, 1), (2, 0))), ("a",))
        with self.within(10):
            lot = names(132)
            standing = tuple([lot[at:at + 12] for at in range(0, 132, 12)]) + ((),)
            self.assert_same(turned_by(Yard(TALLEST), standing, ((0, 11), (11, 0)) * 2500), ())
            self.assert_same(turned_by(Yard(TALLEST), standing, ((0, 11), (11, 0)) * 2499 + ((3, 11),)), (lot[47],))

    def test_wrong_walks(self):
        self.assert_standing_first(turned_by, ((0, 0),))
        for walk, at in ((None, -1), ([(0, 2)], -1), (((0, 0),), 0), (((0, 1),), 0), (((0, 2), (0, 2)), 1), (((2, 0),), 0),
                         (((0, True),), 0), (((0, 3),), 0), (([0, 2],), 0)):
            self.assert_told(InvalidMove, at, turned_by, YARD, STANDING, walk)
        for value in any_values() + strange_papers():
            if value != ():
                at = -1 if not isinstance(value, tuple) else 0
                self.assert_told(InvalidMove, at, turned_by, YARD, STANDING, value)


class TestCanTurn(Checks):

    def test_all_of_small_yards(self):
        for heights, boxes in CASES:
            yard, lot = Yard(heights), tuple("abcd"[:boxes])
            standings = all_standings(heights, lot)
            for one in standings[::max(1, len(standings) // 3)]:
                known = plain_turnings(heights, one)
                self.assert_same(count_turnings(yard, boxes), len(known))
                for other in standings[::max(1, len(standings) // 15)]:
                    parities = {known[pair] % 2 for pair in known if pair[0] == other}
                    wanted = parities.pop() if len(parities) == 1 else None
                    self.assert_same(walk_parity(yard, one, other), wanted)
                    for turned in all_lots_of(lot):
                        fewest = known.get((other, turned))
                        self.assertIs(can_turn(yard, one, other, turned), fewest is not None)
                        self.check_walk(heights, one, other, turned, fewest)

    def check_walk(self, heights, one, other, turned, fewest):
        """The walk, and how many moves it needs, where there is one."""
        yard, free = Yard(heights), sum(heights) - len(boxes_in(one))
        walk = turn_walk(yard, one, other, turned)
        self.assert_same(fewest_turns(yard, one, other, turned), fewest)
        if fewest is None:
            self.assertIs(walk, None)
            return
        self.assertIs(type(walk), tuple)
        self.assertEqual(odd_boxes(heights, one, walk), (other, turned))
        if free == 1:
            self.assertEqual(len(walk), fewest)
        self.assertLessEqual(len(walk), 140 * len(boxes_in(one)))

    def test_one_free_place(self):
        for stacks in (3, 4, 5):
            heights, lot = (1,) * stacks, tuple("abcd"[:stacks - 1])
            one = tuple([(box,) for box in lot]) + ((),)
            known = plain_turnings(heights, one)
            self.assertEqual(max(known.values()), 3 * (stacks - 1) if stacks % 2 else 3 * stacks - 5)
            for other, turned in sorted(known)[::3]:
                self.check_walk(heights, one, other, turned, known[(other, turned)])

    def test_the_farthest_of_more_stacks(self):
        # All boxes stay and are turned, or all but one, which then is in a ring with another one.
        for stacks in range(3, 13):
            lot = names(stacks - 1)
            one = tuple([(box,) for box in lot]) + ((),)
            if stacks % 2:
                self.assert_same(fewest_turns(Yard((1,) * stacks), one, one, lot), 3 * (stacks - 1))
                self.assertEqual(len(turn_walk(Yard((1,) * stacks), one, one, lot)), 3 * (stacks - 1))
            else:
                other = (one[1], one[0]) + one[2:]
                self.assert_same(fewest_turns(Yard((1,) * stacks), one, other, lot), 3 * (stacks - 3) + 4)
                self.assertIs(fewest_turns(Yard((1,) * stacks), one, one, lot), None)
        self.assertEqual(3 * (12 - 3) + 4, 3 * 12 - 5)

    def test_drawn_yards_with_one_free_place(self):
        draw = random.Random(301)
        for _ in range(60):
            heights = tuple([draw.choice((1, 2, 5, 12)) for _ in range(draw.choice((3, 5, 8, 12)))])
            one = drawn_standing(draw, Yard(heights), sum(heights) - 1)
            other = drawn_alike(draw, heights, one)
            fixed = [box for pile in plain_deep(heights, one) for box in pile]
            loose = [box for box in boxes_in(one) if box not in fixed]
            turned = tuple(sorted(draw.sample(loose, draw.randrange(len(loose) + 1))))
            parity = walk_parity(Yard(heights), one, other)
            self.assertIn(parity, (0, 1))
            self.assertIs(can_turn(Yard(heights), one, other, turned), len(turned) % 2 == parity)
            fewest = fewest_turns(Yard(heights), one, other, turned)
            self.check_walk(heights, one, other, turned, fewest)

    def test_drawn_yards_with_more_free_places(self):
        draw, done = random.Random(302), 0
        with self.within(60):
            for at in range(80):
                heights = tuple([draw.choice((1, 2, 3, 5, 12)) for _ in range(draw.choice((3, 4, 5, 12)))])
                boxes = min(40, max(0, sum(heights) - draw.choice((2, 2, 3, 4, 7, 12))))
                one = drawn_standing(draw, Yard(heights), boxes)
                other = drawn_alike(draw, heights, one)
                fixed = [box for pile in plain_deep(heights, one) for box in pile]
                loose = [box for box in boxes_in(one) if box not in fixed]
                turned = tuple(sorted(draw.sample(loose, draw.randrange(min(12, len(loose)) + 1))))
                walk = turn_walk(yard=Yard(heights), one=one, other=other, turned=turned)
                self.assertEqual(odd_boxes(heights, one, walk), (other, turned))
                self.assertLessEqual(len(walk), 140 * boxes)
                done += len(turned) > 3
                if fixed:
                    wrong = tuple(sorted(turned + (fixed[0],)))
                    self.assertIs(can_turn(Yard(heights), one, other, wrong), False)
                    self.assertIs(turn_walk(Yard(heights), one, other, wrong), None)
        self.assertGreater(done, 30)

    def test_no_free_place_and_no_box(self):
        full = (("a", "b"), ("c",), ("d",))
        self.assert_same(walk_parity(YARD, full, full), 0)
        self.assert_same((fewest_turns(YARD, full, full, ()), turn_walk(YARD, full, full, ())), (0, ()))
        self.assert_same((fewest_turns(YARD, full, full, ("b", "c")), turn_walk(YARD, full, full, ("b", "c"))), (None, None))
        self.assertIs(can_turn(YARD, full, full, ("d",)), False)
        self.assertIs(walk_parity(YARD, full, (("a", "c"), ("b",), ("d",))), None)
        self.assert_same(count_turnings(YARD, 4), 1)
        for heights in ((1, 1, 1), TALLEST):
            empty = ((),) * len(heights)
            self.assert_same(walk_parity(Yard(heights), empty, empty), 0)
            self.assert_same((fewest_turns(Yard(heights), empty, empty, ()), turn_walk(Yard(heights), empty, empty, ())), (0, ()))
            self.assert_same(count_turnings(Yard(heights), 0), 1)

    def test_other_classes(self):
        other = (("b", "a"), ("c",), ())
        self.assertFalse(same_class(YARD, STANDING, other))
        for value in ((), ("b",), ("a", "b", "c")):
            self.assert_same((can_turn(YARD, STANDING, other, value), fewest_turns(YARD, STANDING, other, value)), (False, None))
            self.assertIs(turn_walk(YARD, STANDING, other, value), None)
            self.assertIs(can_turn(YARD, STANDING, (("a", "b"), ("d",), ()), value), False)
        self.assertIs(walk_parity(YARD, STANDING, other), None)

    def test_great_classes(self):
        yard, one = Yard((3, 3, 3)), (("a", "b"), ("c",), ("d",))
        self.assertGreater(count_turnings(yard, 4), 500)
        self.assert_told(InvalidSize, "class", fewest_turns, yard, one, one, ())
        self.assert_told(InvalidSize, "class", fewest_turns, yard, one, (("b",), ("a", "c"), ("d",)), ("a", "c"))
        # Where there is no walk it is told first.
        self.assertIs(fewest_turns(yard, one, (("a", "b"), ("c",), ("e",)), ()), None)
        self.assertLessEqual(count_turnings(Yard((1, 1, 1, 1)), 2), 500)
        # With one free place there is no such limit.
        full = (names(24)[:12], names(24)[12:], ())
        self.assertIs(fewest_turns(Yard((12, 12, 1)), full, full, ()), 0)
        count = [boxes for boxes in range(10) if count_turnings(yard, boxes) > 500]
        self.assertIn(4, count)

    def test_counts(self):
        self.assert_same((count_turnings(Yard((1, 1, 1)), 2), count_turnings(YARD, 2)), (12, 32))
        for heights in ((1, 1, 1), (2, 1, 1), (12, 1, 1), (3, 3, 3), TALLEST, (1,) * 12):
            yard = Yard(heights)
            for boxes in {0, 1, 2, sum(heights) - 2, sum(heights) - 1, sum(heights)}:
                wanted = class_size(yard, boxes) * 2 ** (boxes - deep_count(yard, boxes))
                wanted = wanted // 2 if boxes == places(yard) - 1 else wanted
                self.assert_same(count_turnings(yard=yard, boxes=boxes), wanted)
            for boxes in (-1, sum(heights) + 1, 10 ** 30):
                self.assert_told(InvalidSize, "boxes", count_turnings, yard, boxes)

    def test_what_is_no_lot(self):
        other = (("a", "c"), ("b",), ())
        calls = (can_turn, fewest_turns, turn_walk)
        wrong = [("b", "a"), ("a", "a"), ("d",), ["a"], ("a", "b", "c", "d"), ("a", True), (("a",),), None, "a", ("c", "b"),
                 (["a"],), ("a", None), {}]
        for call in calls:
            for value in wrong + [value for value in any_values() + strange_papers() if value != () and value != ("a",)]:
                self.assert_told(Refused, "turned", call, YARD, STANDING, other, value)
                self.assert_told(Refused, "turned", call, YARD, STANDING, (("b", "a"), ("c",), ()), value)
            self.assert_standing_first(call, None, None)
            for value, at in WRONG_STANDINGS:
                self.assert_told(InvalidStanding, at, call, YARD, STANDING, value, None)
        self.assert_standing_first(walk_parity, None)
        for value, at in WRONG_STANDINGS:
            self.assert_told(InvalidStanding, at, walk_parity, YARD, STANDING, value)

    def test_by_name(self):
        one, other = (("a",), ("b",), ()), (("b",), ("a",), ())
        yard = Yard((1, 1, 1))
        self.assert_same(walk_parity(yard=yard, one=one, other=other), 1)
        self.assert_same(can_turn(yard=yard, one=one, other=other, turned=()), False)
        self.assert_same(fewest_turns(yard=yard, one=one, other=other, turned=("b",)), 3)
        self.assert_same(fewest_turns(yard, one, one, ("a", "b")), 6)


class TestSpins(Checks):

    def plain_length(self, heights, standing, box):
        """How many moves point 48 tells; None for no walk."""
        free = sum(heights) - len(boxes_in(standing))
        stack = [box in pile for pile in standing].index(True)
        level = standing[stack].index(box)
        cover, above = heights[stack] - 1 - level, len(standing[stack]) - 1 - level
        if free < 2 or cover >= free:
            return None
        roomy = [at for at, pile in enumerate(standing) if at != stack and len(pile) < heights[at]]
        return 2 * above + 3 + 2 * (cover == free - 1) + 2 * (len(roomy) == 1)

    def check_spin(self, heights, standing, box):
        walk, wanted = spin_walk(Yard(heights), standing, box), self.plain_length(heights, standing, box)
        if wanted is None:
            self.assertIs(walk, None)
        else:
            self.assertIs(type(walk), tuple)
            self.assertEqual(odd_boxes(heights, standing, walk), (standing, (box,)))
            self.assertEqual(len(walk), wanted)
        return wanted

    def test_no_fewer_moves(self):
        seen = set()
        for heights, boxes in CASES + (((2, 2, 1), 3), ((3, 1, 1), 3), ((2, 2, 2), 3), ((1, 1, 3), 2), ((2, 1, 1, 1), 3),
                                       ((3, 2, 1), 4), ((4, 1, 1), 4)):
            standings = all_standings(heights, tuple("abcd"[:boxes]))
            for standing in standings[::max(1, len(standings) // 8)]:
                known = plain_turnings(heights, standing)
                for box in boxes_in(standing):
                    wanted = self.check_spin(heights, standing, box)
                    self.assertEqual(known.get((standing, (box,))), wanted)
                    seen.add(wanted)
        self.assertGreaterEqual(seen, {None, 3, 5, 7, 9})

    def test_each_box_of_drawn_standings(self):
        draw, seen = random.Random(303), set()
        for _ in range(150):
            heights = tuple([draw.choice((1, 1, 2, 3, 5, 12)) for _ in range(draw.choice((3, 3, 4, 5, 12)))])
            boxes = max(0, sum(heights) - draw.choice((0, 1, 2, 3, 4, 7, 12, 13)))
            standing = drawn_standing(draw, Yard(heights), boxes)
            for box in boxes_in(standing):
                seen.add(self.check_spin(heights, standing, box))
        self.assertGreater(len(seen), 8)

    def test_full_and_empty_stacks(self):
        # Only one other stack has room, in a tall yard: what lies on the box goes there, too.
        lot = names(40)
        for heights, piles in (((12, 12, 12), (12, 12, 0)), ((12, 12, 12), (12, 11, 11)), ((12, 1, 1), (11, 1, 0)),
                               ((12, 12, 1), (1, 12, 0)), ((12, 12, 1), (2, 12, 0)), ((12, 12, 12), (0, 12, 12))):
            ends = [sum(piles[:stack]) for stack in range(len(piles) + 1)]
            standing = tuple([lot[ends[stack]:ends[stack + 1]] for stack in range(len(piles))])
            for box in boxes_in(standing):
                self.check_spin(heights, standing, box)

    def test_ends(self):
        self.assertEqual(len(spin_walk(yard=YARD, standing=(("a",), (), ("b",)), box="a")), 7)
        self.assertEqual(len(spin_walk(Yard(TALLEST), (("a",),) + ((),) * 11, "a")), 3)
        self.assertIs(spin_walk(YARD, STANDING, "c"), None)
        self.assertIs(spin_walk(YARD, (("a", "b"), ("c",), ("d",)), "d"), None)
        for box in ("d", "", None, 1, (), "aa"):
            self.assert_told(NoName, box, spin_walk, YARD, STANDING, box)
        self.assert_told(NoName, "a", spin_walk, YARD, ((), (), ()), "a")
        self.assert_standing_first(spin_walk, "a")


if __name__ == "__main__":
    unittest.main()
