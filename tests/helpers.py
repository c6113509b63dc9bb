"""What several tests use: any values, strict checks, and standings reckoned plainly."""

import time
import unittest
from contextlib import contextmanager
from itertools import permutations, product

from staysdeep.errors import InvalidCommand, InvalidYard, NoName, YardError
from staysdeep.yards import Yard

# Small yards that are gone through whole.
SMALL_YARDS = ((1, 1, 1), (2, 1, 1), (1, 2, 1), (1, 1, 3), (2, 2, 1), (1, 3, 2), (1, 1, 1, 1), (2, 1, 2, 1))
TALLEST = (12,) * 12


def nested(kind, depth):
    """A list or tuple that holds itself again, so deep."""
    value = kind()
    for _ in range(depth - 1):
        value = kind([value])
    return value


def any_values():
    """Values of all sorts, new ones with each call."""
    plain = [0, 1, -1, 2, 12, 13, 10 ** 200, True, False, None, "", " ", "\n", "a", "abc", "2 1 1", "0 1"]
    objects = [Yard((1, 1, 1)), YardError(), InvalidYard(3), InvalidCommand(), NoName("a")]
    rows = [(), [], (1,), [1], ("a",), ["a"], (0, 1), [0, 1], (True, False), (None,), ("in", "a"), (Yard((2, 1, 1)),)]
    deep = [nested(list, 30), nested(tuple, 30), ((), (), ()), ([], [], []), (("a",), ("b",), ()), [("a",), (), ()]]
    return plain + objects + rows + deep


def names(many):
    """So many names, ascending."""
    letters = "abcdefghijklmnopqrstuvwxyz"
    return tuple([one + other for one in letters for other in letters][:many])


def all_fillings(heights, boxes):
    return [row for row in product(*[range(height + 1) for height in heights]) if sum(row) == boxes]


def all_standings(heights, lot):
    """All standings of some boxes, ascending, from the definition."""
    standings = []
    for row in all_fillings(heights, len(lot)):
        for boxes in permutations(lot):
            ends = [sum(row[:stack]) for stack in range(len(row) + 1)]
            standings.append(tuple([boxes[ends[stack]:ends[stack + 1]] for stack in range(len(row))]))
    return sorted(standings)


def every_standing(heights):
    """All standings of the first so many of a, b, c .., for each number of boxes."""
    return [one for boxes in range(sum(heights) + 1) for one in all_standings(heights, tuple("abcdefgh"[:boxes]))]


class Checks(unittest.TestCase):
    """Checks that tell 1 from True, and a list from a tuple."""

    def assert_same(self, got, want):
        self.assertEqual(repr(got), repr(want))
        self.assertEqual(got, want)

    def assert_told(self, error, kept, call, *args, **named):
        """The call raises just this error, and the error keeps just this."""
        with self.assertRaises(error) as caught:
            call(*args, **named)
        self.assertIs(caught.exception.__class__, error)
        self.assert_same(list(vars(caught.exception).values()), [kept])

    @contextmanager
    def within(self, seconds):
        begin = time.perf_counter()
        yield
        self.assertLess(time.perf_counter() - begin, seconds)
