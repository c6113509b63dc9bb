"""The mover: it makes all moves that bring the boxes where a paper tells."""

from staysdeep.court import Dealt, check_court
from staysdeep.cranes import Crane
from staysdeep.errors import Refused
from staysdeep.plans import after_steps, empty_standing, move_steps
from staysdeep.standings import place_of
from staysdeep.timetables import COMING, GOING, free_counts, need_timetable
from staysdeep.yards import layer


def going_out(yard, standing, box):
    """The steps by which a box goes: what lies on it is moved, each box once."""
    crane = Crane(yard.heights, standing)
    stack, level = place_of(standing, box)
    crane.unload(stack, level + 1, crane.stacks_but(stack, stack))
    return move_steps(crane.walk) + ((GOING, box, stack),)


def coming_in(yard, standing, box, wanted):
    """The steps by which a box comes, where a place is free.

    `wanted` has the pairs (place, box) of all places that become deep by it, with unlike boxes that are in no deep
    place; the coming one may be among them.
    """
    crane = Crane(yard.heights, standing)
    own = [place for place, name in wanted if name == box]
    for (stack, level), name in wanted:
        if name != box:
            crane.put_down(name, stack, level)
    if own:
        stack, level = own[0]
        crane.unload(stack, level, crane.stacks_but(stack, stack))
    else:
        stack = [at for at in range(len(yard.heights)) if crane.room(at) > 0][0]
    return move_steps(crane.walk) + ((COMING, box, stack),)


def paper_steps(yard, standing, events, table):
    """Some steps that carry out the events from the standing on, and keep each box where the table says."""
    begun = {}
    for place, (first, _), box in table:
        begun.setdefault(first, []).append((place, box))
    now = standing
    told = []
    for at, (word, box) in enumerate(events):
        if word == COMING:
            steps = coming_in(yard, now, box, begun.get(at + 1, []))
        else:
            steps = going_out(yard, now, box)
        now = after_steps(now, steps)
        told.extend(steps)
    return tuple(told)


def plan_for(yard, timetable, dealt):
    """Some plan that carries out the timetable and has the paper."""
    need_timetable(yard, timetable)
    if not isinstance(dealt, Dealt) or not check_court(yard, timetable, dealt):
        raise Refused("paper")
    return paper_steps(yard, empty_standing(yard), timetable, dealt.table)


def moves_above(yard, timetable):
    """So many moves are enough for the timetable, whatever paper is kept."""
    moves = 0
    for free, (word, _) in zip(free_counts(yard, timetable), timetable):
        if word == COMING:
            moves += (3 * free + 2) * len(layer(yard, free - 1))
        else:
            moves += min(free, max(yard.heights) - 1)
    return moves
