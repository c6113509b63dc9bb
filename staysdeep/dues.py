"""Dues: boxes that have to be among the first that go."""

from staysdeep.atoms import is_number, is_same
from staysdeep.errors import InvalidSize, NoName, Refused
from staysdeep.goings import all_waits
from staysdeep.standings import boxes_of, need_standing


class Crowd:
    """A paper: these boxes can go from number `first` on, and are due before `end`, but they are too many."""

    def __init__(self, first, end, boxes):
        self.first = first
        self.end = end
        self.boxes = boxes

    def __eq__(self, other):
        return (
            isinstance(other, Crowd) and self.first == other.first and self.end == other.end
            and self.boxes == other.boxes
        )


def _need_dues(standing, dues):
    """The dues as a dict; raises an error for the first wrong pair."""
    boxes = boxes_of(standing)
    told = {}
    for box, due in dues:
        if box not in boxes:
            raise NoName(box)
        if box in told:
            raise Refused("dues")
        if due < 1:
            raise InvalidSize("due")
        told[box] = due
    return told


def _eager_order(waits, dues):
    """The order in which each time the box goes that is due first."""
    # Whoever has no due comes last.
    urgent = sorted([(box not in dues, dues.get(box, 0), box) for box in waits])
    left = [box for _, _, box in urgent]
    order = []
    while left:
        can_go = [box for box in left if waits[box] <= len(order)]
        order.append(can_go[0])
        left.remove(can_go[0])
    return tuple(order)


def _keeps(order, waits, dues):
    """Whether goings can be done, and no box goes too late."""
    for at, box in enumerate(order):
        if waits[box] > at or dues.get(box, at + 1) <= at:
            return False
    return True


def _crowd_boxes(waits, dues, first, end):
    """The lot of the boxes that can go from number `first` on and are due before `end`."""
    return tuple(sorted([box for box in dues if waits[box] >= first and dues[box] <= end]))


def _first_crowd(waits, dues):
    """The crowd with the least first number, then with the least end; None without one."""
    for first in range(max(list(waits.values()), default=0) + 1):
        for end in range(first, first + len(waits)):
            boxes = _crowd_boxes(waits, dues, first, end)
            if len(boxes) > end - first:
                return Crowd(first, end, boxes)
    return None


def due_order(yard, standing, dues):
    """Goings of all boxes that keep the dues, or the first crowd."""
    need_standing(yard, standing)
    told = _need_dues(standing, dues)
    waits = all_waits(yard, standing)
    order = _eager_order(waits, told)
    if _keeps(order, waits, told):
        return order
    return _first_crowd(waits, told)


def _is_crowd(waits, dues, value):
    """Whether a `Crowd`, of any values, is right."""
    if not is_number(value.first) or not is_number(value.end) or value.end < value.first:
        return False
    boxes = _crowd_boxes(waits, dues, value.first, value.end)
    return is_same(value.boxes, boxes) and len(boxes) > value.end - value.first


def _is_order_of_all(standing, value):
    """Whether any value is a tuple of all boxes."""
    boxes = boxes_of(standing)
    if not isinstance(value, tuple) or len(value) != len(boxes):
        return False
    return all([box in value for box in boxes])


def check_dues(yard, standing, dues, value):
    """Whether any value is goings of all boxes that keep the dues, or some right crowd."""
    need_standing(yard, standing)
    told = _need_dues(standing, dues)
    waits = all_waits(yard, standing)
    if isinstance(value, Crowd):
        return _is_crowd(waits, told, value)
    return _is_order_of_all(standing, value) and _keeps(value, waits, told)
