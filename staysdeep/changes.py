"""Changed timetables, days on which boxes go and come, and boxes that are told to go in an order."""

from math import perm

from staysdeep.atoms import is_lot
from staysdeep.errors import InvalidOrder, InvalidSize, NoName, Refused
from staysdeep.joined import goes_on, need_coming_marks, open_covers, table_names
from staysdeep.rule import need_order
from staysdeep.standings import boxes_of, need_standing
from staysdeep.stretches import owed
from staysdeep.timetables import COMING, GOING, timetable_boxes
from staysdeep.yards import layer


def dropped(timetable, box):
    """The timetable without the events of a box."""
    if box not in timetable_boxes(timetable):
        raise NoName(box)
    return tuple([event for event in timetable if event[1] != box])


def exchanged(timetable, at):
    """The timetable with an event and the next one exchanged."""
    if not 0 <= at < len(timetable) - 1:
        raise InvalidSize("at")
    one, other = timetable[at], timetable[at + 1]
    if one[1] == other[1]:
        raise Refused("box")
    return timetable[:at] + (other, one) + timetable[at + 2:]


def _is_day(value):
    """Whether any value is a pair of lots of names."""
    return isinstance(value, tuple) and len(value) == 2 and is_lot(value[0]) and is_lot(value[1])


def need_days(value):
    """Returns None for days, and raises `InvalidOrder` for any other value."""
    if not isinstance(value, tuple):
        raise InvalidOrder(-1)
    came = set()
    gone = set()
    for at, day in enumerate(value):
        if not _is_day(day):
            raise InvalidOrder(at)
        for box in day[1]:
            if box in came:
                raise InvalidOrder(at)
            came.add(box)
        for box in day[0]:
            if box not in came or box in gone:
                raise InvalidOrder(at)
            gone.add(box)


def day_order(days):
    """The events of the days in an order that can be carried out if any can."""
    need_days(days)
    leaves = {box: at for at, (outs, _) in enumerate(days) for box in outs}
    events = []
    for outs, ins in days:
        came = [box for word, box in events if word == COMING]
        events.extend([(GOING, box) for box in reversed(came) if box in outs])
        for box in ins:
            if box in outs:
                events.extend([(COMING, box), (GOING, box)])
        further = [box for box in ins if box not in outs]
        # A lot ascends by name, so of boxes that go on one day, or never, the least name stays first.
        further = sorted(further, key=lambda box: -leaves.get(box, len(days)))
        events.extend([(COMING, box) for box in further])
    return tuple(events)


def _need_table_order(yard, table, order):
    """Raises an error unless all boxes of the table can go in this order."""
    need_coming_marks(yard, [table])
    need_order(table_names(table), order)
    if goes_on(yard, table, tuple([(GOING, box) for box in order])) is not None:
        raise Refused("order")


def _need_cover(yard, table, cover):
    if cover not in open_covers(yard, table):
        raise InvalidSize("cover")


def _hold(yard, table, order, cover):
    """The least number in the order that a box may have which lies in a place of this cover."""
    marks = dict(table)
    found = []
    for further in [one for one in open_covers(yard, table) if one >= cover]:
        row = [number for number, box in enumerate(order) if marks[box] > further]
        found.append(row[-owed(yard, further)])
    return min(found)


def _safe(yard, table, order, cover):
    """The lot of the boxes that may lie in a place of this cover."""
    hold = _hold(yard, table, order, cover)
    return tuple([box for box, mark in table if mark > cover and order.index(box) >= hold])


def hold_of(yard, table, order, cover):
    """The least number in the order that a box may have which lies in a place of this cover."""
    _need_table_order(yard, table, order)
    _need_cover(yard, table, cover)
    return _hold(yard, table, order, cover)


def safe_boxes(yard, table, order, cover):
    """The lot of the boxes that may lie in a place of this cover, if all boxes go in this order."""
    _need_table_order(yard, table, order)
    _need_cover(yard, table, cover)
    return _safe(yard, table, order, cover)


def safe_standing(yard, table, order, standing):
    """Whether in all deep places lie boxes that may lie there, if all boxes go in this order."""
    need_standing(yard, standing)
    _need_table_order(yard, table, order)
    if boxes_of(standing) != tuple(table_names(table)):
        raise Refused("boxes")
    for cover in open_covers(yard, table):
        lot = _safe(yard, table, order, cover)
        if not all([standing[stack][level] in lot for stack, level in layer(yard, cover)]):
            return False
    return True


def count_safe(yard, table, order):
    """In how many ways the deep places can be filled safely."""
    _need_table_order(yard, table, order)
    many = 1
    for cover in open_covers(yard, table):
        spare = len(_safe(yard, table, order, cover)) - owed(yard, cover + 1)
        many = many * perm(spare, len(layer(yard, cover)))
    return many
