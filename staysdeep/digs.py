"""Digging out a box, shifting it, and bringing boxes to the tops of wished stacks."""

from staysdeep.classes import deep_part, loose_part
from staysdeep.cranes import Crane
from staysdeep.errors import Refused
from staysdeep.standings import boxes_of, count_boxes, free_places, need_standing, place_of
from staysdeep.walks import walk_between
from staysdeep.yards import cover_of, deep_row, need_stack


def _spare_room(yard, standing, box):
    """How many more places are free than lie above the place of a box."""
    free = free_places(yard, standing)
    stack, level = place_of(standing, box)
    return free - cover_of(yard, stack, level)


def can_dig(yard, standing, box):
    """Whether a box can be brought to the top of a stack."""
    return _spare_room(yard, standing, box) >= 0


def can_shift(yard, standing, box):
    """Whether some walk moves a box."""
    return _spare_room(yard, standing, box) > 0


def _unloading_walk(yard, standing, stack, level):
    """A walk that lays all boxes from a level of a stack on onto other stacks."""
    crane = Crane(yard.heights, standing)
    crane.unload(stack, level, crane.stacks_but(stack, stack))
    return tuple(crane.walk)


def dig_walk(yard, standing, box):
    """Some walk of the fewest moves behind which a box is on top of its own stack, or None."""
    if not can_dig(yard, standing, box):
        return None
    stack, level = place_of(standing, box)
    return _unloading_walk(yard, standing, stack, level + 1)


def shift_walk(yard, standing, box):
    """Some walk of the fewest moves the last of which moves a box, or None."""
    if not can_shift(yard, standing, box):
        return None
    stack, level = place_of(standing, box)
    return _unloading_walk(yard, standing, stack, level)


def lying_places(yard, standing, box):
    """The places in which a box lies in some standing that this one can become."""
    need_standing(yard, standing)
    place = place_of(standing, box)
    row = deep_row(yard, count_boxes(standing))
    if place[1] < row[place[0]]:
        return (place,)
    loose = count_boxes(standing) - sum(row)
    tips = [min(height, deep + loose) for height, deep in zip(yard.heights, row)]
    return tuple([(stack, level) for stack, tip in enumerate(tips) for level in range(row[stack], tip)])


def wish_walk(yard, standing, box, stack):
    """Some walk of the fewest moves behind which a box is on top of a told stack, or None."""
    need_standing(yard, standing)
    source, level = place_of(standing, box)
    need_stack(yard, stack)
    if source == stack:
        return dig_walk(yard, standing, box)
    if not can_shift(yard, standing, box):
        return None
    crane = Crane(yard.heights, standing)
    thirds = crane.stacks_but(source, stack)
    # The told stack gives its top box away only if it is full, and gets others last: a place is left for the box.
    crane.unload(stack, yard.heights[stack] - 1, thirds)
    crane.unload(source, level + 1, thirds + [stack])
    crane.lift(source, stack)
    return tuple(crane.walk)


def _need_wishes(yard, standing, wishes):
    need_standing(yard, standing)
    boxes, stacks = [], []
    for box, stack in wishes:
        place_of(standing, box)
        need_stack(yard, stack)
        if box in boxes or stack in stacks:
            raise Refused("wishes")
        boxes.append(box)
        stacks.append(stack)


def _is_met(standing, wishes):
    """Whether each box is on top of its wished stack now."""
    return all([standing[stack][-1:] == (box,) for box, stack in wishes])


def _can_be_met(yard, standing, deep_wishes):
    """Whether wishes for these deep boxes, and any for others, can be met at once."""
    free = free_places(yard, standing)
    if len(deep_wishes) > 1 and free > 0:
        return False
    return all([place_of(standing, box) == (stack, yard.heights[stack] - 1 - free) for box, stack in deep_wishes])


def _met_standing(yard, standing, wishes, deep_wishes):
    """A standing of the same class in which the wishes are met."""
    tops = {stack: (box,) for box, stack in wishes}
    taken = [box for box, _ in wishes]
    left = [box for box in boxes_of(loose_part(yard, standing)) if box not in taken]
    bare = [stack for _, stack in deep_wishes]
    piles = []
    for stack, deep in enumerate(deep_part(yard, standing)):
        top = tops.get(stack, ())
        if stack in bare:
            piles.append(deep)
        else:
            room = yard.heights[stack] - len(deep) - len(top)
            piles.append(deep + tuple(left[:room]) + top)
            left = left[room:]
    return tuple(piles)


def wishes_walk(yard, standing, wishes):
    """Some walk behind which each box is on top of its wished stack, or None."""
    _need_wishes(yard, standing, wishes)
    if _is_met(standing, wishes):
        return ()
    fixed = [box for pile in deep_part(yard, standing) for box in pile]
    deep_wishes = [(box, stack) for box, stack in wishes if box in fixed]
    if not _can_be_met(yard, standing, deep_wishes):
        return None
    return walk_between(yard, standing, _met_standing(yard, standing, wishes, deep_wishes))
