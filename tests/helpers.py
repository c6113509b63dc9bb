"""What several tests use: any values, strict checks, and standings, walks and classes reckoned plainly."""

import random
import time
import unittest
from contextlib import contextmanager
from functools import lru_cache
from itertools import permutations, product

from staysdeep.errors import InvalidCommand, InvalidStanding, InvalidTimetable, InvalidYard, NoName, YardError
from staysdeep.standings import count_standings, standing_at
from staysdeep.yards import Yard

# Small yards that are gone through whole.
SMALL_YARDS = ((1, 1, 1), (2, 1, 1), (1, 2, 1), (1, 1, 3), (2, 2, 1), (1, 3, 2), (1, 1, 1, 1), (2, 1, 2, 1))
TALLEST = (12,) * 12

# What is no standing of the yard 2 1 1, with what is told of it.
WRONG_STANDINGS = (
    (None, -1), (True, -1), ("abc", -1), ([(), (), ()], -1), (((), ()), -1), (((), (), (), ()), -1), ((), -1),
    (((), ["a"], ()), 1), ((("a", "b", "c"), 1, ()), 0), ((("a",), ("a",), None), 1), (((), (), (True,)), 2),
    (((), ("A",), ("a", "b")), 1), ((("a", "b"), (), ("b",)), 2), ((("a", "a"), (), ()), 0), (((), ("",), ()), 1),
)
# What is no timetable of the yard 1 1 1, with what is told of it.
WRONG_TIMETABLES = (
    (None, -1), (False, -1), ("in a", -1), ([], -1), ([("in", "a")], -1), (("in", "a"), 0), ((["in", "a"],), 0),
    ((("in", "a"), ("in", "a")), 1), ((("out", "a"),), 0), ((("in", "a"), ("out", "a"), ("in", "a")), 2),
    ((("in", "a"), ("in", "b"), ("in", "c"), ("in", "d"), None), 3), ((("in", True),), 0), (((True, "a"),), 0),
    ((("in", "a"), ("out", "b"), ("in", "a")), 1), ((("in", "a"), ("out", "a"), ("out", "a")), 2),
)


def nested(kind, depth):
    """A list or tuple that holds itself again, so deep."""
    value = kind()
    for _ in range(depth - 1):
        value = kind([value])
    return value


def any_values():
    """Values of all sorts, new ones with each call."""
    plain = [0, 1, -1, 2, 12, 13, 10 ** 200, True, False, None]
    plain += ["", " ", "\n", "a", "abc", "2 1 1", "0 1", "in a", "in", "out"]
    objects = [Yard((1, 1, 1)), YardError(), InvalidYard(3), InvalidCommand(), NoName("a")]
    rows = [(), [], (1,), [1], ("a",), ["a"], (0, 1), [0, 1], (True, False), (None,), ("in", "a"), (Yard((2, 1, 1)),)]
    deep = [nested(list, 30), nested(tuple, 30), ((), (), ()), ([], [], []), (("a",), ("b",), ()), [("a",), (), ()]]
    return plain + objects + rows + deep


def names(many):
    """So many names, ascending."""
    letters = "abcdefghijklmnopqrstuvwxyz"
    return tuple([one + other for one in letters for other in letters][:many])


def all_fillings(heights, boxes):
    return [row for row in product(*[range(height + 1) for height in heights]) if sum(row) == boxes]


def all_standings(heights, lot):
    """All standings of some boxes, ascending, from the definition."""
    standings = []
    for row in all_fillings(heights, len(lot)):
        for boxes in permutations(lot):
            ends = [sum(row[:stack]) for stack in range(len(row) + 1)]
            standings.append(tuple([boxes[ends[stack]:ends[stack + 1]] for stack in range(len(row))]))
    return sorted(standings)


def every_standing(heights):
    """All standings of the first so many of a, b, c .., for each number of boxes."""
    return [one for boxes in range(sum(heights) + 1) for one in all_standings(heights, tuple("abcdefgh"[:boxes]))]


def plain_move(heights, standing, move):
    """The standing behind a move, reckoned plainly; None if it cannot be done."""
    if type(move) is not tuple or len(move) != 2 or [type(at) for at in move] != [int, int]:
        return None
    if move[0] == move[1] or not set(move) <= set(range(len(heights))):
        return None
    piles = [list(pile) for pile in standing]
    if not piles[move[0]] or len(piles[move[1]]) == heights[move[1]]:
        return None
    piles[move[1]].append(piles[move[0]].pop())
    return tuple([tuple(pile) for pile in piles])


def plain_walk(heights, standing, walk):
    """(all standings, the boxes moved one after another), or the number of the first wrong move."""
    way, boxes = [standing], []
    for at, move in enumerate(walk):
        behind = plain_move(heights, way[-1], move)
        if behind is None:
            return at
        boxes.append(way[-1][move[0]][-1])
        way.append(behind)
    return way, boxes


@lru_cache(maxsize=None)
def plain_class(heights, start):
    """All standings that this one can become, each with the fewest moves to it."""
    moves = [(stack, other) for stack in range(len(heights)) for other in range(len(heights))]
    fewest, level = {start: 0}, [start]
    while level:
        behind = [plain_move(heights, standing, move) for standing in level for move in moves]
        many = fewest[level[0]] + 1
        level = [standing for standing in dict.fromkeys(behind) if standing is not None and standing not in fewest]
        fewest.update({standing: many for standing in level})
    return fewest


def plain_deep(heights, standing):
    """For each stack its boxes that are never lifted, from the covers of their places."""
    free = sum(heights) - sum([len(pile) for pile in standing])
    piles = []
    for height, pile in zip(heights, standing):
        piles.append(tuple([box for level, box in enumerate(pile) if height - 1 - level >= free]))
    return tuple(piles)


def drawn_yard(draw, heights=(1, 2, 3, 6, 11, 12), stacks=(3, 4, 5, 8, 12)):
    """Some yard; `draw` is a `random.Random` with a told seed, so that each run has the same one."""
    return Yard([draw.choice(heights) for _ in range(draw.choice(stacks))])


def drawn_standing(draw, yard, boxes):
    return standing_at(yard, names(boxes), draw.randrange(count_standings(yard, boxes)))


def all_timetables(room, length):
    """All timetables of at most so many events, with never more boxes; the boxes come as a, b, c .."""
    told, level = [], [()]
    for _ in range(length + 1):
        told.extend(level)
        level = [events + (event,) for events in level for event in next_events(room, events)]
    return told


def next_events(room, events):
    there, came = sorted(plain_states(events)[-1]), [box for word, box in events if word == "in"]
    goings = [("out", box) for box in there]
    return goings + [("in", "abcdefghijkl"[len(came)])] if len(there) < room else goings


def plain_states(timetable):
    """For each state the set of the boxes that are there."""
    states = [set()]
    for word, box in timetable:
        states.append(states[-1] | {box} if word == "in" else states[-1] - {box})
    return states


def drawn_timetable(draw, room, length):
    """A timetable of so many events in which rather more boxes come than go; no box comes in order of its name."""
    left, there, events = draw.sample(names(length), length), [], []
    while len(events) < length:
        if there and (len(there) == room or draw.random() < 0.45):
            events.append(("out", there.pop(draw.randrange(len(there)))))
        else:
            there.append(left.pop())
            events.append(("in", there[-1]))
    return tuple(events)


class Checks(unittest.TestCase):
    """Checks that tell 1 from True, and a list from a tuple."""

    def assert_same(self, got, want):
        self.assertEqual(repr(got), repr(want))
        self.assertEqual(got, want)

    def assert_told(self, error, kept, call, *args, **named):
        """The call raises just this error, and the error keeps just this."""
        with self.assertRaises(error) as caught:
            call(*args, **named)
        self.assertIs(caught.exception.__class__, error)
        self.assert_same(list(vars(caught.exception).values()), [kept])

    def assert_standing_first(self, call, *rest):
        """What is no standing of the yard 2 1 1 is told before anything else."""
        for value, at in WRONG_STANDINGS:
            self.assert_told(InvalidStanding, at, call, Yard((2, 1, 1)), value, *rest)

    def assert_timetable_first(self, call, *rest):
        """What is no timetable of the yard 1 1 1 is told before anything else."""
        for value, at in WRONG_TIMETABLES:
            self.assert_told(InvalidTimetable, at, call, Yard((1, 1, 1)), value, *rest)

    @contextmanager
    def within(self, seconds):
        begin = time.perf_counter()
        yield
        self.assertLess(time.perf_counter() - begin, seconds)
