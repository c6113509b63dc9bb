"""Walks from one standing to another one: some, the shortest, and how far the farthest is."""

from staysdeep.classes import class_size, loose_part, rest_yard, same_class
from staysdeep.cranes import Crane
from staysdeep.errors import InvalidSize
from staysdeep.moves import after_move, bare_walk, moves_from, walk_back, walked
from staysdeep.standings import count_boxes, free_places, standing_at
from staysdeep.yards import deep_count, layer, need_boxes, places

GREATEST_CLASS = 500


def _low_places(yard, boxes):
    """So many places with the greatest covers, the greatest first."""
    covers = range(max(yard.heights) - 1, -1, -1)
    return [place for cover in covers for place in layer(yard, cover)][:boxes]


def _settling_walk(yard, standing):
    """A walk behind which the boxes lie in the places with the greatest covers."""
    crane = Crane(yard.heights, standing)
    stacks = range(len(yard.heights))
    low = _low_places(yard, count_boxes(standing))
    wanted = [len([place for place in low if place[0] == stack]) for stack in stacks]
    for stack in stacks:
        while len(crane.piles[stack]) > wanted[stack]:
            short = [other for other in stacks if len(crane.piles[other]) < wanted[other]]
            crane.lift(stack, short[0])
    return tuple(crane.walk)


def _sorting_walk(yard, one, other):
    """A walk between two standings of one class, in both of which the boxes lie as `_settling_walk` leads them."""
    crane = Crane(yard.heights, one)
    # What was put down is to stay; by falling covers it leaves the other stacks the places that `put_down` needs.
    for stack, level in _low_places(yard, count_boxes(one)):
        crane.put_down(other[stack][level], stack, level)
    return tuple(crane.walk)


def walk_between(yard, one, other):
    """Some walk from one standing to another one, of at most 100 moves for each box, or None."""
    if not same_class(yard, one, other):
        return None
    there, back = _settling_walk(yard, one), _settling_walk(yard, other)
    across = _sorting_walk(yard, walked(yard, one, there), walked(yard, other, back))
    return bare_walk(there + across + walk_back(back))


def _ring_walk(one, other):
    """A shortest walk where each stack has one place that is not deep, and one of these places is free."""
    now = list(one)
    walk = []
    while True:
        wrong = [stack for stack, pile in enumerate(now) if pile and pile != other[stack]]
        if not wrong:
            return tuple(walk)
        hole = now.index(())
        # A place that stays free gets a box only to open a ring that does not go over it.
        stack = now.index(other[hole]) if other[hole] else wrong[0]
        now[hole], now[stack] = now[stack], ()
        walk.append((stack, hole))


def _ways(yard, start):
    """For each standing that this one can become the pairs of a move and the standing behind it."""
    ways = {}
    waiting = [start]
    while waiting:
        standing = waiting.pop()
        if standing not in ways:
            moves = moves_from(yard, standing)
            ways[standing] = [(move, after_move(standing, move[0], move[1])) for move in moves]
            waiting.extend([behind for move, behind in ways[standing]])
    return ways


def _reached(ways, start):
    """For each standing the fewest moves from the start, the standing before it, and the move between."""
    reached = {start: (0, None, None)}
    level = [start]
    while level:
        further = []
        for standing in level:
            many = reached[standing][0] + 1
            for move, behind in ways[standing]:
                if behind not in reached:
                    reached[behind] = (many, standing, move)
                    further.append(behind)
        level = further
    return reached


def _searched_walk(yard, one, other):
    """A shortest walk between two standings of one class, found by going through all of the class."""
    reached = _reached(_ways(yard, one), one)
    walk = []
    standing = other
    while standing != one:
        _, standing, move = reached[standing]
        walk.append(move)
    return tuple(walk[::-1])


def _need_small_class(yard, boxes):
    if class_size(yard, boxes) > GREATEST_CLASS:
        raise InvalidSize("class")


def shortest_walk(yard, one, other):
    """Some walk of the fewest moves from one standing to another one, or None."""
    if not same_class(yard, one, other):
        return None
    if free_places(yard, one) == 1:
        return _ring_walk(loose_part(yard, one), loose_part(yard, other))
    _need_small_class(yard, count_boxes(one))
    return _searched_walk(yard, one, other)


def _is_in_order(standing):
    """Whether the names of the boxes ascend from stack to stack, and up in each."""
    boxes = [box for pile in standing for box in pile]
    return boxes == sorted(boxes)


def farthest(yard, boxes):
    """The greatest number of moves that a shortest walk needs, with so many boxes."""
    need_boxes(yard, boxes)
    free = places(yard) - boxes
    if free == 0:
        return 0
    if free == 1:
        return 3 * (len(yard.heights) - 1) // 2
    _need_small_class(yard, boxes)
    rest = rest_yard(yard, boxes)
    loose = boxes - deep_count(yard, boxes)
    # So small a class has far fewer loose boxes than there are letters.
    ways = _ways(rest, standing_at(rest, tuple("abcdefghijkl"[:loose]), 0))
    # Other names in the same places change no distance, so one order of the names is enough to begin with.
    starts = [standing for standing in ways if _is_in_order(standing)]
    return max([found[0] for start in starts for found in _reached(ways, start).values()])
