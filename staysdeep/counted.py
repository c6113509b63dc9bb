"""Counting: the yards that carry out a timetable, and the timetables that a yard carries out."""

from math import comb

from staysdeep.compared import need_total
from staysdeep.court import can_be_done
from staysdeep.errors import InvalidSize, Refused
from staysdeep.helped import stay_row
from staysdeep.joined import is_held, next_table, table_names
from staysdeep.timetables import COMING, GOING, need_timetable, state_boxes, timetable_boxes
from staysdeep.yards import GREATEST_HEIGHT, places


def count_yards(timetable, total, stacks):
    """How many yards with so many places and stacks carry out the timetable; the order of the heights counts."""
    need_total(total, stacks)
    row = stay_row(timetable)
    if len(row) > total:
        return 0
    # By how many stacks have more places than are free, and how many more places than that they have together.
    ways = {(0, 0): 1}
    for free in range(GREATEST_HEIGHT - 1, -1, -1):
        boxes = total - free
        most = row[boxes - 1] if 1 <= boxes <= len(row) else total
        ways = _with_higher(ways, stacks, most)
    return ways.get((stacks, total), 0)


def _with_higher(ways, stacks, most):
    """The ways as they are with one free place less, where so many places at the most may be deep."""
    found = {}
    for (had, deep), many in ways.items():
        for higher in range(had, stacks + 1):
            if deep + higher <= most:
                key = (higher, deep + higher)
                found[key] = found.get(key, 0) + many * comb(stacks - had, higher - had)
    return found


def _behind(yard, table, event):
    """The table behind an event that can be carried out behind a table, else None."""
    behind = next_table(yard, table, event)
    if len(behind) > places(yard) or not is_held(yard, behind):
        return None
    return behind


def _count_on(yard, table, left, known):
    """In how many ways all boxes of a table go, and so many others come and go, behind it.

    `known` keeps what was counted; only the marks count, not the names.
    """
    marks = tuple(sorted([mark for _, mark in table]))
    if (marks, left) not in known:
        many = 1 if left == 0 and not table else 0
        # No box is called so: a name has letters.
        if left > 0:
            many += left * _count_behind(yard, table, (COMING, str(left)), left, known)
        box_of = {mark: box for box, mark in table}
        for mark, box in box_of.items():
            many += marks.count(mark) * _count_behind(yard, table, (GOING, box), left, known)
        known[(marks, left)] = many
    return known[(marks, left)]


def _count_behind(yard, table, event, left, known):
    """As `_count_on`, but with this event as the first one."""
    behind = _behind(yard, table, event)
    if behind is None:
        return 0
    return _count_on(yard, behind, left - 1 if event[0] == COMING else left, known)


def count_timetables(yard, boxes):
    """How many timetables that bring and take so many told boxes once each the yard carries out."""
    return _count_on(yard, (), boxes, {})


def _next_events(table, left):
    """The events that can be next, ascending; these boxes are still to come."""
    return [(COMING, box) for box in left] + [(GOING, box) for box in table_names(table)]


def nth_timetable(yard, lot, number):
    """The timetable with a number among those of a lot of boxes that the yard carries out, in ascending order."""
    known = {}
    if not 0 <= number < _count_on(yard, (), len(lot), known):
        raise InvalidSize("number")
    table, left = (), list(lot)
    events = []
    while table or left:
        for event in _next_events(table, left):
            many = _count_behind(yard, table, event, len(left), known)
            if number < many:
                break
            number -= many
        events.append(event)
        table = _behind(yard, table, event)
        left = [box for box in left if box != event[1]]
    return tuple(events)


def timetable_number(yard, timetable):
    """The number of a timetable among those of its boxes that the yard carries out, in ascending order."""
    need_timetable(yard, timetable)
    if state_boxes(timetable, len(timetable)):
        raise Refused("boxes")
    if not can_be_done(yard, timetable):
        raise Refused("stuck")
    known = {}
    number = 0
    table, left = (), list(timetable_boxes(timetable))
    for done in timetable:
        for event in _next_events(table, left):
            if event < done:
                number += _count_behind(yard, table, event, len(left), known)
        table = _behind(yard, table, done)
        left = [box for box in left if box != done[1]]
    return number
