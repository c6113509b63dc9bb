"""What several tests use: any values, strict checks, and standings, walks, plans and timetables reckoned plainly."""

import random
import re
import time
import unittest
from contextlib import contextmanager
from functools import lru_cache
from itertools import permutations, product

from staysdeep.court import Dealt, Short
from staysdeep.desk import Desk
from staysdeep.dues import Crowd
from staysdeep.errors import InvalidCommand, InvalidStanding, InvalidTimetable, InvalidYard, NoName, YardError
from staysdeep.kinds import Given, Lacking
from staysdeep.live import Live
from staysdeep.standings import count_standings, standing_at
from staysdeep.starts import Torn
from staysdeep.yards import Yard, places

# Small yards that are gone through whole.
SMALL_YARDS = ((1, 1, 1), (2, 1, 1), (1, 2, 1), (1, 1, 3), (2, 2, 1), (1, 3, 2), (1, 1, 1, 1), (2, 1, 2, 1))
TALLEST = (12,) * 12

# What is no standing of the yard 2 1 1, with what is told of it.
WRONG_STANDINGS = (
    (None, -1), (True, -1), ("abc", -1), ([(), (), ()], -1), (((), ()), -1), (((), (), (), ()), -1), ((), -1),
    (((), ["a"], ()), 1), ((("a", "b", "c"), 1, ()), 0), ((("a",), ("a",), None), 1), (((), (), (True,)), 2),
    (((), ("A",), ("a", "b")), 1), ((("a", "b"), (), ("b",)), 2), ((("a", "a"), (), ()), 0), (((), ("",), ()), 1),
)
# A timetable of the yard 2 1 1 that cannot be carried out, from the overview.
WORDS = "in a in b in c in d out a in e out b in f out c".split()
STUCK = tuple(zip(WORDS[::2], WORDS[1::2]))
# What is no timetable of the yard 1 1 1, with what is told of it.
WRONG_TIMETABLES = (
    (None, -1), (False, -1), ("in a", -1), ([], -1), ([("in", "a")], -1), (("in", "a"), 0), ((["in", "a"],), 0),
    ((("in", "a"), ("in", "a")), 1), ((("out", "a"),), 0), ((("in", "a"), ("out", "a"), ("in", "a")), 2),
    ((("in", "a"), ("in", "b"), ("in", "c"), ("in", "d"), None), 3), ((("in", True),), 0), (((True, "a"),), 0),
    ((("in", "a"), ("out", "b"), ("in", "a")), 1), ((("in", "a"), ("out", "a"), ("out", "a")), 2),
)


def nested(kind, depth):
    """A list or tuple that holds itself again, so deep."""
    value = kind()
    for _ in range(depth - 1):
        value = kind([value])
    return value


def any_values():
    """Values of all sorts, new ones with each call."""
    plain = [0, 1, -1, 2, 12, 13, 10 ** 200, True, False, None]
    plain += ["", " ", "\n", "a", "abc", "2 1 1", "0 1", "in a", "in", "out"]
    objects = [Yard((1, 1, 1)), YardError(), InvalidYard(3), InvalidCommand(), NoName("a"), Live(Yard((2, 1, 1))), Desk()]
    rows = [(), [], (1,), [1], ("a",), ["a"], (0, 1), [0, 1], (True, False), (None,), ("in", "a"), (Yard((2, 1, 1)),)]
    deep = [nested(list, 30), nested(tuple, 30), ((), (), ()), ([], [], []), (("a",), ("b",), ()), [("a",), (), ()]]
    return plain + objects + rows + deep + strange_papers()


def strange_papers():
    """Papers that are right for hardly anything."""
    torns = [Torn(None, None, None, None), Torn((0, 0), (0, 0), None, None), Torn((0, 0), (0, 0), "a", None)]
    torns += [Torn([0, 0], [0, 0], "a", "b"), Torn((False, 0), (0, 0), "a", "b"), Torn(Dealt(()), (), True, {})]
    tables = [None, 0, "abc", (), [], (1,), ((1, 2, 3),), ((),), (((0, 0), (0, 0)),), [((0, 0), (0, 0), "a")]]
    tables += [(((0, 0), (0, 0), None),), ((None, None, "a"),), (((0, 0), (0, 0), ["a"]),), (([], [], []),)]
    papers = [Dealt(table) for table in tables] + [Given((), table) for table in tables]
    papers += [Short(None, None, None), Short(0, (0, 0), ()), Short(-1, (0, 0), ()), Short(True, (0, 0), ())]
    papers += [Short([], [], []), Short("a", "b", "c"), Short(10 ** 30, (0, 0), ()), Short(0, None, Dealt(()))]
    papers += [Crowd(None, None, None), Crowd(0, 0, ()), Crowd(-1, 0, ()), Crowd([], (), {}), Crowd(0, 0, [1])]
    papers += [Lacking(None, None, None), Lacking(0, (0, 0), ()), Lacking(True, [0, 0], ((),)), Lacking((), (), ())]
    return papers + torns + [Given(None, None), Given([], []), Given((("in", "a"),), ()), Dealt(Dealt(())), Given(Yard, len)]


def names(many):
    """So many names, ascending."""
    letters = "abcdefghijklmnopqrstuvwxyz"
    return tuple([one + other for one in letters for other in letters][:many])


def all_fillings(heights, boxes):
    return [row for row in product(*[range(height + 1) for height in heights]) if sum(row) == boxes]


def all_standings(heights, lot):
    """All standings of some boxes, ascending, from the definition."""
    standings = []
    for row in all_fillings(heights, len(lot)):
        for boxes in permutations(lot):
            ends = [sum(row[:stack]) for stack in range(len(row) + 1)]
            standings.append(tuple([boxes[ends[stack]:ends[stack + 1]] for stack in range(len(row))]))
    return sorted(standings)


def every_standing(heights):
    """All standings of the first so many of a, b, c .., for each number of boxes."""
    return [one for boxes in range(sum(heights) + 1) for one in all_standings(heights, tuple("abcdefgh"[:boxes]))]


def plain_move(heights, standing, move):
    """The standing behind a move, reckoned plainly; None if it cannot be done."""
    if type(move) is not tuple or len(move) != 2 or [type(at) for at in move] != [int, int]:
        return None
    if move[0] == move[1] or not set(move) <= set(range(len(heights))):
        return None
    piles = [list(pile) for pile in standing]
    if not piles[move[0]] or len(piles[move[1]]) == heights[move[1]]:
        return None
    piles[move[1]].append(piles[move[0]].pop())
    return tuple([tuple(pile) for pile in piles])


def plain_walk(heights, standing, walk):
    """(all standings, the boxes moved one after another), or the number of the first wrong move."""
    way, boxes = [standing], []
    for at, move in enumerate(walk):
        behind = plain_move(heights, way[-1], move)
        if behind is None:
            return at
        boxes.append(way[-1][move[0]][-1])
        way.append(behind)
    return way, boxes


@lru_cache(maxsize=None)
def plain_class(heights, start):
    """All standings that this one can become, each with the fewest moves to it."""
    moves = [(stack, other) for stack in range(len(heights)) for other in range(len(heights))]
    fewest, level = {start: 0}, [start]
    while level:
        behind = [plain_move(heights, standing, move) for standing in level for move in moves]
        many = fewest[level[0]] + 1
        level = [standing for standing in dict.fromkeys(behind) if standing is not None and standing not in fewest]
        fewest.update({standing: many for standing in level})
    return fewest


def plain_deep(heights, standing):
    """For each stack its boxes that are never lifted, from the covers of their places."""
    free = sum(heights) - sum([len(pile) for pile in standing])
    piles = []
    for height, pile in zip(heights, standing):
        piles.append(tuple([box for level, box in enumerate(pile) if height - 1 - level >= free]))
    return tuple(piles)


def plain_step(heights, standing, step):
    """The standing behind a step, reckoned plainly; None for no step, or one that cannot be done."""
    if type(step) is not tuple or len(step) != 3:
        return None
    word, thing, stack = step
    if word == "move":
        return plain_move(heights, standing, (thing, stack))
    if word not in ("in", "out") or type(thing) is not str or not re.fullmatch("[a-z]{1,8}", thing):
        return None
    if type(stack) is not int or stack not in range(len(heights)):
        return None
    pile = standing[stack]
    if word == "in":
        behind = pile + (thing,) if len(pile) < heights[stack] else None
    else:
        behind = pile[:-1] if pile[-1:] == (thing,) else None
    return None if behind is None else standing[:stack] + (behind,) + standing[stack + 1:]


def plain_run(heights, steps, start=None):
    """All standings before and after these steps, or the number of the first wrong one."""
    way = [((),) * len(heights) if start is None else start]
    came = [box for pile in way[0] for box in pile]
    for at, step in enumerate(steps):
        behind = plain_step(heights, way[-1], step)
        if behind is None or (step[0] == "in" and step[1] in came):
            return at
        came += [step[1]] if step[0] == "in" else []
        way.append(behind)
    return way


def closed(heights, standings):
    """All standings that some of these can become."""
    moves = [(stack, other) for stack in range(len(heights)) for other in range(len(heights)) if stack != other]
    known, waiting = set(standings), list(standings)
    while waiting:
        standing = waiting.pop()
        for move in moves:
            behind = plain_move(heights, standing, move)
            if behind is not None and behind not in known:
                known.add(behind)
                waiting.append(behind)
    return known


def ends_on(heights, standings, event):
    """All standings in which an event can end, and any moves behind it, from any of these, moved before, too."""
    steps = [event + (stack,) for stack in range(len(heights))]
    behind = {plain_step(heights, standing, step) for standing in standings for step in steps} - {None}
    return closed(heights, behind)


def plain_ends(heights, events, start=None):
    """For each state all standings that can be there then; from the first event on that nobody can do, none."""
    told = [closed(heights, [((),) * len(heights) if start is None else start])]
    for event in events:
        told.append(ends_on(heights, told[-1], event))
    return told


def plain_stuck(heights, events, start=None):
    """The number of the first event that nobody can do, by a plain search; None if all can be done."""
    told = [bool(ends) for ends in plain_ends(heights, events, start)]
    return None if all(told) else told.index(False) - 1


def drawn_yard(draw, heights=(1, 2, 3, 6, 11, 12), stacks=(3, 4, 5, 8, 12)):
    """Some yard; `draw` is a `random.Random` with a told seed, so that each run has the same one."""
    return Yard([draw.choice(heights) for _ in range(draw.choice(stacks))])


def drawn_standing(draw, yard, boxes):
    return standing_at(yard, names(boxes), draw.randrange(count_standings(yard, boxes)))


def all_timetables(room, length):
    """All timetables of at most so many events, with never more boxes; the boxes come as a, b, c .."""
    told, level = [], [()]
    for _ in range(length + 1):
        told.extend(level)
        level = [events + (event,) for events in level for event in next_events(room, events)]
    return told


def next_events(room, events):
    there, came = sorted(plain_states(events)[-1]), [box for word, box in events if word == "in"]
    goings = [("out", box) for box in there]
    return goings + [("in", "abcdefghijkl"[len(came)])] if len(there) < room else goings


def plain_states(timetable, boxes=()):
    """For each state the set of the boxes that are there; these ones are there at first."""
    states = [set(boxes)]
    for word, box in timetable:
        states.append(states[-1] | {box} if word == "in" else states[-1] - {box})
    return states


def drawn_timetable(draw, room, length):
    """A timetable of so many events in which rather more boxes come than go; no box comes in order of its name."""
    left, there, events = draw.sample(names(length), length), [], []
    while len(events) < length:
        if there and (len(there) == room or draw.random() < 0.45):
            events.append(("out", there.pop(draw.randrange(len(there)))))
        else:
            there.append(left.pop())
            events.append(("in", there[-1]))
    return tuple(events)


def plain_stretches(total, timetable, cover, boxes=()):
    """All rows of states with so few free places that cannot be made longer."""
    fits = [total - len(there) <= cover for there in plain_states(timetable, boxes)]
    found = []
    for first in range(len(fits)):
        for last in range(first, len(fits)):
            ends = (first == 0 or not fits[first - 1]) and (last == len(fits) - 1 or not fits[last + 1])
            if ends and all(fits[first:last + 1]):
                found.append((first, last))
    return tuple(found)


def plain_stayers(timetable, first, last, boxes=()):
    states = plain_states(timetable, boxes)[first:last + 1]
    return tuple(sorted(box for box in states[0] if all(box in there for there in states)))


def some_timetables(seed, many, events=200):
    """Yards of all kinds with timetables that keep them rather full."""
    draw = random.Random(seed)
    told = []
    for _ in range(many):
        yard = drawn_yard(draw, heights=(1, 2, 3, 5), stacks=(3, 4, 5))
        told.append((yard, drawn_timetable(draw, places(yard), events)))
    return told


def busy_timetable(draw, room, length, low):
    """A timetable that fills the yard up to `low` boxes, and then has never fewer, nor more than there is room for.

    No box comes in order of its name; some have long names. Rather those go that came early.
    """
    left, there, events = draw.sample(names(length) + ("abcdefgh", "zzzzzzzz", "q"), length), [], []
    full = False
    while len(events) < length:
        full = full or len(there) >= low
        if there and (len(there) == room or (full and len(there) > low and draw.random() < 0.5)):
            events.append(("out", there.pop(draw.randrange(draw.randrange(len(there)) + 1))))
        else:
            there.append(left.pop())
            events.append(("in", there[-1]))
    return tuple(events)


def plain_places(heights, cover):
    return [(stack, height - 1 - cover) for stack, height in enumerate(heights) if height > cover]


def plain_table(heights, timetable):
    """The table that the court deals, state by state; None if in some state nobody is left for a place."""
    lasts = {box: at for at, (word, box) in enumerate(timetable) if word == "out"}
    lain, rows = {}, []
    for state, there in enumerate(plain_states(timetable)):
        free = sum(heights) - len(there)
        lain = {place: row for place, row in lain.items() if heights[place[0]] - 1 - place[1] >= free}
        for stack, height in enumerate(heights):
            for level in range(height):
                if height - 1 - level >= free and (stack, level) not in lain:
                    loose = there - {row[3] for row in lain.values()}
                    if not loose:
                        return None
                    box = min(loose, key=lambda name: (-lasts.get(name, len(timetable)), name))
                    lain[(stack, level)] = [(stack, level), state, state, box]
                    rows.append(lain[(stack, level)])
        for row in lain.values():
            row[2] = state
    return tuple(sorted((place, (first, last), box) for place, first, last, box in rows))


def plain_keys(heights, timetable, boxes=()):
    """The pairs (place, stretch) of all places and all stretches of their covers, ascending."""
    told = []
    for cover in range(max(heights)):
        stretches = plain_stretches(sum(heights), timetable, cover, boxes)
        told += [(place, stretch) for place in plain_places(heights, cover) for stretch in stretches]
    return sorted(told)


def is_right_table(heights, timetable, table, boxes=()):
    """Whether a tuple of triples is a right table, from the definition."""
    if [triple[:2] for triple in table] != plain_keys(heights, timetable, boxes):
        return False
    for at, (_, (first, last), box) in enumerate(table):
        if box not in plain_stayers(timetable, first, last, boxes):
            return False
        for _, (begin, end), other in table[:at]:
            if box == other and max(first, begin) <= min(last, end):
                return False
    return True


def all_tables(heights, timetable, boxes=()):
    """All right tables, by trying all stayers."""
    keys = plain_keys(heights, timetable, boxes)
    tables = [()]
    for place, (first, last) in keys:
        further = []
        for table in tables:
            busy = {box for _, (begin, end), box in table if max(first, begin) <= min(last, end)}
            free = [box for box in plain_stayers(timetable, first, last, boxes) if box not in busy]
            further += [table + ((place, (first, last), box),) for box in free]
        tables = further
    return tables


class Checks(unittest.TestCase):
    """Checks that tell 1 from True, and a list from a tuple."""

    def assert_same(self, got, want):
        self.assertEqual(repr(got), repr(want))
        self.assertEqual(got, want)

    def assert_told(self, error, kept, call, *args, **named):
        """The call raises just this error, and the error keeps just this."""
        with self.assertRaises(error) as caught:
            call(*args, **named)
        self.assertIs(caught.exception.__class__, error)
        self.assert_same(list(vars(caught.exception).values()), [kept])

    def assert_standing_first(self, call, *rest):
        """What is no standing of the yard 2 1 1 is told before anything else."""
        for value, at in WRONG_STANDINGS:
            self.assert_told(InvalidStanding, at, call, Yard((2, 1, 1)), value, *rest)

    def assert_timetable_first(self, call, *rest):
        """What is no timetable of the yard 1 1 1 is told before anything else."""
        for value, at in WRONG_TIMETABLES:
            self.assert_told(InvalidTimetable, at, call, Yard((1, 1, 1)), value, *rest)

    @contextmanager
    def within(self, seconds):
        begin = time.perf_counter()
        yield
        self.assertLess(time.perf_counter() - begin, seconds)
