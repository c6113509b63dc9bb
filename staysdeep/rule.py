"""The rule: it knows of each box in the yard only when it leaves, and nothing of who will come."""

from staysdeep.classes import loose_part
from staysdeep.digs import can_dig
from staysdeep.errors import InvalidOrder, Refused
from staysdeep.mover import coming_in, going_out
from staysdeep.plans import after_steps, empty_standing
from staysdeep.standings import boxes_of, free_places, place_of
from staysdeep.timetables import COMING, need_state, need_timetable, presences
from staysdeep.yards import layer


def leaving_order(timetable, state):
    """The boxes that are there in a state, the first to leave first."""
    need_state(timetable, state)
    rows = [(last, box) for box, first, last in presences(timetable) if first <= state <= last]
    # No two go at one time, so only those that stay to the end are told apart by their names.
    falling = sorted(rows, reverse=True)
    return tuple([box for _, box in sorted(falling, key=lambda row: row[0])])


def need_order(boxes, order):
    """Raises `InvalidOrder` for any value that is no order of all these boxes."""
    if not isinstance(order, tuple):
        raise InvalidOrder(-1)
    for at, box in enumerate(order):
        if box not in boxes or box in order[:at]:
            raise InvalidOrder(at)
    if len(order) < len(boxes):
        raise InvalidOrder(len(order))


def _wanted(yard, standing, box, order):
    """The pairs (place, box) of the places that become deep by a coming, as the rule gives them."""
    loose = boxes_of(loose_part(yard, standing)) + (box,)
    row = [name for name in reversed(order) if name in loose]
    return list(zip(layer(yard, free_places(yard, standing) - 1), row))


def rule_steps(yard, standing, event, order):
    """Some moves and the step of an event, by which the rule carries it out from a standing."""
    free = free_places(yard, standing)
    word, box = event
    boxes = boxes_of(standing)
    if word == COMING:
        if box in boxes:
            raise Refused("box")
        if free == 0:
            raise Refused("room")
        need_order(boxes + (box,), order)
        return coming_in(yard, standing, box, _wanted(yard, standing, box, order))
    place_of(standing, box)
    need_order(boxes, order)
    if not can_dig(yard, standing, box):
        raise Refused("deep")
    return going_out(yard, standing, box)


def rule_plan(yard, timetable):
    """The steps of the rule for one event after another, up to the first event that is refused."""
    need_timetable(yard, timetable)
    standing = empty_standing(yard)
    plan = []
    for at, event in enumerate(timetable):
        state = at + 1 if event[0] == COMING else at
        try:
            steps = rule_steps(yard, standing, event, leaving_order(timetable, state))
        except Refused:
            return tuple(plan)
        standing = after_steps(standing, steps)
        plan.extend(steps)
    return tuple(plan)
