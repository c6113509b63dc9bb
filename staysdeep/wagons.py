"""Wagons: boxes that are turned about by each move, and walks that turn just some of them."""

from staysdeep.atoms import is_lot
from staysdeep.classes import class_size, deep_part, loose_part, same_class
from staysdeep.cranes import Crane
from staysdeep.errors import InvalidSize, Refused
from staysdeep.moves import after_move, moves_from, walk_back, walk_standings
from staysdeep.standings import boxes_of, count_boxes, free_places, need_standing, place_of
from staysdeep.walks import GREATEST_CLASS, walk_between
from staysdeep.yards import cover_of, deep_count, places


def turned_by(yard, standing, walk):
    """The lot of the boxes that a walk turns: those that it moves an odd number of times."""
    way = walk_standings(yard, standing, walk)
    turned = {}
    for at, move in enumerate(walk):
        box = way[at][move[0]][-1]
        turned[box] = not turned.get(box, False)
    return tuple(sorted([box for box in turned if turned[box]]))


def _turn(turned, box):
    """The lot of turned boxes when one more is turned."""
    if box in turned:
        return tuple([other for other in turned if other != box])
    return tuple(sorted(turned + (box,)))


def _rings(one, other):
    """The rings of stacks with one place each: for each the boxes that go to the next one's place, None for no box."""
    goals = {pile: stack for stack, pile in enumerate(other)}
    rings = []
    left = list(range(len(one)))
    while left:
        ring = []
        stack = left[0]
        while stack in left:
            left.remove(stack)
            ring.append(one[stack][0] if one[stack] else None)
            stack = goals[one[stack]]
        rings.append(ring)
    return rings


def _ring_cost(ring, turned):
    """How many moves a ring needs."""
    staying = len([box for box in ring if box is not None and box not in turned])
    if None in ring:
        return len(ring) - 1 + staying
    if len(ring) == 1:
        return 0 if staying else 3
    return len(ring) + 1 + abs(staying - 1)


def _ring_moves(one, other, turned):
    """The fewest moves where each stack has one place, and one of these places is free."""
    return sum([_ring_cost(ring, turned) for ring in _rings(one, other)])


def walk_parity(yard, one, other):
    """0 if all walks from one standing to another one have an even number of moves, 1 if odd, else None."""
    if not same_class(yard, one, other):
        return None
    free = free_places(yard, one)
    if free == 0 or count_boxes(one) == 0:
        return 0
    if free > 1:
        return None
    return sum([len(ring) - 1 for ring in _rings(loose_part(yard, one), loose_part(yard, other))]) & 1


def can_turn(yard, one, other, turned):
    """Whether some walk leads from one standing to the other one and turns just these boxes."""
    need_standing(yard, one)
    need_standing(yard, other)
    boxes = boxes_of(one)
    if not is_lot(turned) or not all([box in boxes for box in turned]):
        raise Refused("turned")
    if not same_class(yard, one, other):
        return False
    deep = boxes_of(deep_part(yard, one))
    parity = walk_parity(yard, one, other)
    return not any([box in deep for box in turned]) and parity in (None, len(turned) & 1)


def count_turnings(yard, boxes):
    """How many pairs of a standing and a lot of turned boxes a standing of so many boxes can become."""
    each = 1 << (boxes - deep_count(yard, boxes))
    many = class_size(yard, boxes) * each
    return many // 2 if places(yard) - boxes == 1 else many


def _searched_moves(yard, one, other, turned):
    """The fewest moves to the other standing, with just these boxes turned, found by going through all."""
    known = {(one, ()): True}
    level = [(one, ())]
    moves = 0
    while (other, turned) not in known:
        moves += 1
        further = []
        for standing, lot in level:
            for stack, goal in moves_from(yard, standing):
                pair = (after_move(standing, stack, goal), _turn(lot, standing[stack][-1]))
                if pair not in known:
                    known[pair] = True
                    further.append(pair)
        level = further
    return moves


def fewest_turns(yard, one, other, turned):
    """The fewest moves of a walk to the other standing that turns just these boxes, or None."""
    if not can_turn(yard, one, other, turned):
        return None
    free = free_places(yard, one)
    if free == 0:
        return 0
    if free == 1:
        return _ring_moves(loose_part(yard, one), loose_part(yard, other), turned)
    if count_turnings(yard, count_boxes(one)) > GREATEST_CLASS:
        raise InvalidSize("class")
    return _searched_moves(yard, one, other, turned)


def _ring_step(now, other, left):
    """The stack of a move into the free place that makes the fewest moves less."""
    hole = now.index(())
    ways = []
    for stack, pile in enumerate(now):
        if pile:
            moves = _ring_moves(after_move(now, stack, hole), other, _turn(left, pile[0]))
            ways.append((moves, stack))
    return min(ways)[1]


def _ring_walk(one, other, turned):
    """A walk of the fewest moves where each stack has one place, and one of these places is free."""
    now, left = one, turned
    walk = []
    while _ring_moves(now, other, left) > 0:
        stack = _ring_step(now, other, left)
        left = _turn(left, now[stack][0])
        walk.append((stack, now.index(())))
        now = after_move(now, walk[-1][0], walk[-1][1])
    return tuple(walk)


def turn_walk(yard, one, other, turned):
    """Some walk to the other standing that turns just these boxes, or None."""
    if not can_turn(yard, one, other, turned):
        return None
    if free_places(yard, one) == 1:
        return _ring_walk(loose_part(yard, one), loose_part(yard, other), turned)
    walk = walk_between(yard, one, other)
    wrong = turned_by(yard, one, walk)
    for box in turned:
        wrong = _turn(wrong, box)
    # Each of these is turned once too often, or not yet.
    for box in wrong:
        walk = walk + spin_walk(yard, other, box)
    return walk


def _set_aside(crane, stack, many, thirds):
    """Lays the top boxes of a stack aside, so many; a place is left free on each of two thirds."""
    for _ in range(many):
        roomy = [other for other in crane.stacks_but(stack, stack) if crane.room(other) > (1 if other in thirds else 0)]
        crane.lift(stack, roomy[0])


def _spin(stack, thirds, tight):
    """The moves that turn the top box of a stack.

    There is a free place on each of two thirds; if it is tight, one of them is taken by a box that lay on it, which
    is laid back in the end.
    """
    one, two = thirds
    if not tight:
        return ((stack, one), (one, two), (two, stack))
    # The other box makes room for this one twice, and is moved four times.
    return ((stack, two), (stack, one), (two, stack), (one, two), (stack, one), (two, stack), (one, stack))


def _narrow_spin(stack, one, two):
    """As `_spin`, where only the one other stack has room, just one place, and nothing lies on the box."""
    return ((stack, one), (two, stack), (one, two), (stack, one), (two, stack), (one, stack), (stack, two))


def spin_walk(yard, standing, box):
    """Some walk of the fewest moves that leads back to the standing and turns this box alone, or None."""
    free = free_places(yard, standing)
    stack, level = place_of(standing, box)
    cover = cover_of(yard, stack, level)
    if free < 2 or cover >= free:
        return None
    tight = cover == free - 1
    above = len(standing[stack]) - 1 - level
    crane = Crane(yard.heights, standing)
    others = crane.stacks_but(stack, stack)
    roomy = [other for other in others if crane.room(other) > 0]
    if len(roomy) == 1:
        full = [other for other in others if other not in roomy][0]
        if tight and above == 0:
            return _narrow_spin(stack, roomy[0], full)
        crane.lift(full, roomy[0])
        roomy.append(full)
    _set_aside(crane, stack, above - 1 if tight else above, roomy[:2])
    aside = tuple(crane.walk)
    return aside + _spin(stack, roomy[:2], tight) + walk_back(aside)
