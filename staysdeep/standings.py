"""Standings: which boxes lie where, and the numbers of all standings."""

from math import factorial

from staysdeep.errors import InvalidSize, InvalidStanding, NoName
from staysdeep.atoms import is_name
from staysdeep.yards import deep_places, need_boxes, places


def need_standing(yard, value):
    """Returns None for a standing of the yard, and raises `InvalidStanding` for any other value."""
    if not isinstance(value, tuple) or len(value) != len(yard.heights):
        raise InvalidStanding(-1)
    seen = set()
    for stack, pile in enumerate(value):
        if not _is_pile(pile, yard.heights[stack]):
            raise InvalidStanding(stack)
        for box in pile:
            if box in seen:
                raise InvalidStanding(stack)
            seen.add(box)


def _is_pile(value, height):
    return isinstance(value, tuple) and len(value) <= height and all([is_name(box) for box in value])


def count_boxes(standing):
    """The number of the boxes."""
    return sum([len(pile) for pile in standing])


def free_places(yard, standing):
    """The number of places in which no box lies."""
    need_standing(yard, standing)
    return places(yard) - count_boxes(standing)


def boxes_of(standing):
    """The lot of the boxes."""
    return tuple(sorted([box for pile in standing for box in pile]))


def tops(standing):
    """The top box of each stack, None for an empty one."""
    return tuple([pile[-1] if pile else None for pile in standing])


def place_of(standing, box):
    """The place (stack, level) of a box."""
    for stack, pile in enumerate(standing):
        if box in pile:
            return stack, pile.index(box)
    raise NoName(box)


def boxes_above(standing, box):
    """The boxes that lie on a box, the lowest first."""
    stack, level = place_of(standing, box)
    return standing[stack][level + 1:]


def deep_boxes(yard, standing):
    """The lot of pairs (place, box) of the deep places."""
    need_standing(yard, standing)
    deep = deep_places(yard, count_boxes(standing))
    return tuple([((stack, level), standing[stack][level]) for stack, level in deep])


def _filling_rows(heights):
    """Row k has, for each number of boxes up to all places, the fillings of the stacks from k on."""
    most = sum(heights)
    rows = [[1] + [0] * most]
    for height in reversed(heights):
        rows.append([_sum_down(rows[-1], boxes, height) for boxes in range(most + 1)])
    return rows[::-1]


def _sum_down(row, boxes, room):
    """The fillings of a stack with so much room, and of those stacks behind it that the row tells of."""
    return sum([row[boxes - here] for here in range(min(room, boxes) + 1)])


def fillings(yard, boxes):
    """In how many ways so many boxes, not told apart, can be spread over the stacks."""
    need_boxes(yard, boxes)
    return _filling_rows(yard.heights)[0][boxes]


def count_standings(yard, boxes):
    """The number of standings of so many told boxes."""
    return fillings(yard, boxes) * factorial(boxes)


def _count_ended(behind, left):
    """Standings of `left` boxes behind a stack that gets no further box: they come first."""
    return behind[left] * factorial(left)


def _count_each(behind, left, room):
    """Standings of `left` boxes in which a told one of them is the next on a stack with so much room."""
    return _sum_down(behind, left - 1, room - 1) * factorial(left - 1)


def standing_at(yard, lot, number):
    """The standing with a number among all standings of a lot of boxes, in ascending order."""
    if len(lot) > places(yard):
        raise InvalidSize("boxes")
    if not 0 <= number < count_standings(yard, len(lot)):
        raise InvalidSize("number")
    left = list(lot)
    rows = _filling_rows(yard.heights)
    standing = []
    for stack, height in enumerate(yard.heights):
        pile, number = _pile_at(left, rows[stack + 1], height, number)
        left = [box for box in left if box not in pile]
        standing.append(pile)
    return tuple(standing)


def _pile_at(lot, behind, height, number):
    """The next stack of the standing with a number, and the number of what comes behind this stack."""
    left = list(lot)
    pile = []
    while number >= _count_ended(behind, len(left)):
        number -= _count_ended(behind, len(left))
        each = _count_each(behind, len(left), height - len(pile))
        pile.append(left.pop(number // each))
        number = number % each
    return tuple(pile), number


def standing_number(yard, standing):
    """The number of a standing among all standings of its boxes."""
    need_standing(yard, standing)
    left = list(boxes_of(standing))
    rows = _filling_rows(yard.heights)
    number = 0
    for stack, pile in enumerate(standing):
        behind = rows[stack + 1]
        for level, box in enumerate(pile):
            each = _count_each(behind, len(left), yard.heights[stack] - level)
            number += _count_ended(behind, len(left)) + left.index(box) * each
            left.remove(box)
    return number
