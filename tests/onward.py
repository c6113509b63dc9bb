"""What the tests of events behind a standing use: papers reckoned plainly, and steps replayed."""

import random

from staysdeep.court import Short
from staysdeep.starts import Torn
from staysdeep.yards import Yard
from tests.helpers import (
    Checks, drawn_standing, names, plain_deep, plain_keys, plain_places, plain_run, plain_states, plain_stayers,
    plain_stretches,
)

SMALL = ((1, 1, 1), (2, 1, 1), (1, 3, 1), (2, 2, 1), (1, 1, 1, 1))


def boxes_in(standing):
    return tuple(sorted(box for pile in standing for box in pile))


def lowest_first(heights, standing):
    """The boxes by the covers of their places, the greatest first."""
    rows = [(level + 1 - heights[stack], box) for stack, pile in enumerate(standing) for level, box in enumerate(pile)]
    return [box for _, box in sorted(rows)]


def drawn_onward(draw, room, boxes, length, low=0, late=0):
    """Events behind these boxes, after which never fewer than so many are there but at the start.

    If `late` is not 0, mostly one of the last so many boxes goes, in the order in which they are told and came; if it
    is below 0, rather one of the first.
    """
    there, left = list(boxes), draw.sample(["n" + name for name in names(length)] + ["azzz", "zzzzzzzz"], length)
    events = []
    for _ in range(length):
        if there and (len(there) == room or (len(there) > low and draw.random() < 0.5)):
            back = min(len(there), late) if late > 0 and draw.random() < 0.97 else len(there)
            at = draw.randrange(draw.randrange(len(there)) + 1) if late < 0 else -1 - draw.randrange(back)
            events.append(("out", there.pop(at)))
        else:
            there.append(left.pop())
            events.append(("in", there[-1]))
    return tuple(events)


def some_onward(seed, many, yards=SMALL, length=9):
    """Triples (heights, standing, events) with all numbers of boxes."""
    draw, told = random.Random(seed), []
    for heights in yards:
        for at in range(many):
            total = sum(heights)
            boxes = total - at % (total + 1)
            low = max(0, total - draw.choice((1, max(heights), max(heights), max(heights) + 1)))
            standing = drawn_standing(draw, Yard(heights), boxes)
            many_events = draw.choice((length, draw.randrange(length + 1)))
            order = lowest_first(heights, standing)
            events = drawn_onward(draw, total, order, many_events, low, draw.choice((-1, -1, 0, 2, 3)))
            told.append((heights, standing, events))
    return told


def tall_cases(seed, many, boxes=144):
    """Triples (heights, standing, events) in yards of all kinds, with up to 200 events; at most so many boxes."""
    draw, told = random.Random(seed), []
    for at in range(many):
        heights = tuple([draw.choice((1, 1, 2, 3, 4, 6, 12)) for _ in range(draw.choice((3, 3, 4, 5, 12)))])
        if sum(heights) > boxes:
            continue
        there = max(0, sum(heights) - draw.choice((0, 1, 2, 3, 6, 12)))
        low = max(0, sum(heights) - draw.choice((1, 2, 3, 5, 12)))
        standing = drawn_standing(draw, Yard(heights), there)
        order = lowest_first(heights, standing)
        events = drawn_onward(draw, sum(heights), order, (0, 3, 8, 20, 60, 200)[at % 6], low, (0, 1, 2, 3)[at // 6 % 4])
        told.append((heights, standing, events))
    return told


def few_keys(heights, standing, events):
    """Whether there are so few places and stretches that all tables can be tried."""
    return len(plain_keys(heights, events, boxes_in(standing))) <= 8


def lying(standing, place):
    return standing[place[0]][place[1]]


def told_boxes(key, standing, events, wished):
    """The boxes (at the start, wished in the end) of a place and a stretch, None where none is told."""
    place, (first, last) = key
    start = lying(standing, place) if first == 0 else None
    return start, lying(wished, place) if wished is not None and last == len(events) else None


def plain_torns(heights, standing, events, wished=None):
    found, boxes = [], boxes_in(standing)
    for key in plain_keys(heights, events, boxes):
        start, end = told_boxes(key, standing, events, wished)
        told = {start, end} - {None}
        if len(told) == 2 or told - set(plain_stayers(events, *key[1], boxes)):
            found.append(key + (start, end))
    return found


def plain_late(heights, standing, events, wished=None):
    """The shorts of stretches for which no boxes are told, as (cover, stretch, stayers)."""
    found, boxes = [], boxes_in(standing)
    for cover in range(max(heights)):
        needs = sum(height - cover for height in heights if height > cover)
        for first, last in plain_stretches(sum(heights), events, cover, boxes):
            stay = plain_stayers(events, first, last, boxes)
            if first > 0 and (wished is None or last < len(events)) and len(stay) < needs:
                found.append((cover, (first, last), stay))
    return found


def plain_onward_table(heights, standing, events, wished=None):
    """What is dealt, state by state, with the told boxes where there are such."""
    boxes = boxes_in(standing)
    lasts = {box: at for at, (word, box) in enumerate(events) if word == "out"}
    keys, lain, rows = plain_keys(heights, events, boxes), {}, []
    for state, there in enumerate(plain_states(events, boxes)):
        lain = {key: box for key, box in lain.items() if key[1][1] >= state}
        for key in [key for key in keys if key[1][0] == state]:
            told = [box for box in told_boxes(key, standing, events, wished) if box is not None]
            loose = told or sorted(there - set(lain.values()), key=lambda box: (-lasts.get(box, len(events)), box))
            lain[key] = loose[0]
            rows.append(key + (loose[0],))
    return tuple(sorted(rows))


def shown(paper):
    """A paper as plain values."""
    if isinstance(paper, Torn):
        return paper.place, paper.stretch, paper.start, paper.end
    if isinstance(paper, Short):
        return paper.cover, paper.stretch, paper.stayers
    return paper.table


def keeps_told(standing, events, wished, table):
    """Whether a table has the told boxes where there are such."""
    for key in table:
        if any(box not in (None, key[2]) for box in told_boxes(key[:2], standing, events, wished)):
            return False
    return True


class OnwardChecks(Checks):

    def check_replay(self, heights, standing, events, steps, table):
        """Replays steps behind a standing: the events, the moves before each, and the places that the table tells.

        Returns the standings behind the last event: the first one, and those of further moves.
        """
        self.assertIs(type(steps), tuple)
        way = plain_run(heights, steps, standing)
        self.assertNotIsInstance(way, int)
        ends = [0] + [at + 1 for at, step in enumerate(steps) if step[0] != "move"]
        self.assertEqual(tuple(step[:2] for step in steps if step[0] != "move"), events)
        counts = [sum(heights) - len(there) for there in plain_states(events, boxes_in(standing))]
        for state, (word, box) in enumerate(events):
            moves, free, before = ends[state + 1] - ends[state] - 1, counts[state], way[ends[state]]
            if word == "out":
                pile = [pile for pile in before if box in pile][0]
                self.assertEqual(moves, len(pile) - 1 - pile.index(box))
                self.assertLessEqual(moves, free)
            else:
                self.assertLessEqual(moves, (3 * free + 2) * len(plain_places(heights, free - 1)))
        for place, (first, last), box in table:
            until = ends[last + 1] if last < len(events) else len(way)
            for at in range(ends[first], until):
                self.assertEqual(lying(way[at], place), box)
        return way[ends[-1]:]

    def count_unlike(self, heights, one, other):
        """In how many deep places two standings have unlike boxes."""
        pairs = zip(plain_deep(heights, one), plain_deep(heights, other))
        return sum(box != name for pile, others in pairs for box, name in zip(pile, others))
