"""Classes: standings that can become each other, and the numbers of classes and of what is in them."""

from math import perm

from staysdeep.errors import InvalidSize, Refused
from staysdeep.standings import (
    boxes_of, count_boxes, count_standings, deep_boxes, need_standing, standing_at, standing_number,
)
from staysdeep.yards import Yard, deep_count, deep_row, need_boxes, places


def deep_part(yard, standing):
    """For each stack the boxes in its deep places, the lowest first."""
    need_standing(yard, standing)
    row = deep_row(yard, count_boxes(standing))
    return tuple([pile[:deep] for pile, deep in zip(standing, row)])


def loose_part(yard, standing):
    """For each stack its boxes that are not deep, the lowest first: a standing of the rest yard."""
    need_standing(yard, standing)
    row = deep_row(yard, count_boxes(standing))
    return tuple([pile[deep:] for pile, deep in zip(standing, row)])


def same_class(yard, one, other):
    """Whether two standings are of one class, so that each can become the other."""
    need_standing(yard, one)
    need_standing(yard, other)
    return boxes_of(one) == boxes_of(other) and deep_part(yard, one) == deep_part(yard, other)


def parting_place(yard, one, other):
    """The first deep place in which two standings of the same boxes have unlike ones, or None."""
    need_standing(yard, one)
    need_standing(yard, other)
    if boxes_of(one) != boxes_of(other):
        raise Refused("boxes")
    for held, wanted in zip(deep_boxes(yard, one), deep_boxes(yard, other)):
        if held != wanted:
            return held[0]
    return None


def count_classes(yard, boxes):
    """How many classes there are for so many told boxes."""
    return perm(boxes, deep_count(yard, boxes))


def class_size(yard, boxes):
    """How many standings each class of so many told boxes has."""
    rest = rest_yard(yard, boxes)
    if rest is None:
        return 1
    return count_standings(rest, boxes - deep_count(yard, boxes))


def rest_yard(yard, boxes):
    """The yard without its deep places, for so many boxes; None if no place is free."""
    need_boxes(yard, boxes)
    free = places(yard) - boxes
    if free == 0:
        return None
    return Yard([min(height, free) for height in yard.heights])


def _row_at(lot, many, number):
    """Of all rows of `many` boxes of a lot, in ascending order, the one with a number."""
    left = list(lot)
    row = []
    for at in range(many):
        each = perm(len(left) - 1, many - at - 1)
        row.append(left.pop(number // each))
        number = number % each
    return row


def _row_number(lot, row):
    """The number of a row among all rows of as many boxes of a lot, in ascending order."""
    left = list(lot)
    number = 0
    for at, box in enumerate(row):
        number += left.index(box) * perm(len(left) - 1, len(row) - at - 1)
        left.remove(box)
    return number


def nth_class(yard, lot, number):
    """The deep part with a number among the deep parts of all classes of a lot, in ascending order."""
    if len(lot) > places(yard):
        raise InvalidSize("boxes")
    if not 0 <= number < count_classes(yard, len(lot)):
        raise InvalidSize("number")
    counts = deep_row(yard, len(lot))
    # Each stack has as many boxes in all deep parts, so these are in the order of their boxes in one row.
    row = _row_at(lot, sum(counts), number)
    ends = [sum(counts[:stack]) for stack in range(len(counts) + 1)]
    return tuple([tuple(row[ends[stack]:ends[stack + 1]]) for stack in range(len(counts))])


def class_number(yard, standing):
    """The number of the deep part of a standing."""
    row = [box for pile in deep_part(yard, standing) for box in pile]
    return _row_number(boxes_of(standing), row)


def nth_in_class(yard, standing, number):
    """The standing with a number among those of the class of a standing, in ascending order."""
    deep = deep_part(yard, standing)
    boxes = count_boxes(standing)
    if not 0 <= number < class_size(yard, boxes):
        raise InvalidSize("number")
    rest = rest_yard(yard, boxes)
    if rest is None:
        return standing
    loose = standing_at(rest, boxes_of(loose_part(yard, standing)), number)
    return tuple([below + above for below, above in zip(deep, loose)])


def number_in_class(yard, standing):
    """The number of a standing among those of its class."""
    loose = loose_part(yard, standing)
    rest = rest_yard(yard, count_boxes(standing))
    if rest is None:
        return 0
    return standing_number(rest, loose)
