"""Goings: boxes that go one after another while nobody comes."""

from math import perm

from staysdeep.errors import InvalidOrder, InvalidSize, Refused
from staysdeep.mover import going_out
from staysdeep.plans import after_steps
from staysdeep.standings import boxes_of, count_boxes, count_standings, free_places, need_standing, place_of
from staysdeep.stretches import owed
from staysdeep.yards import cover_of, need_boxes, places


def need_goings(yard, standing, value):
    """Returns None for goings of the standing, and raises `InvalidOrder` for any other value."""
    need_standing(yard, standing)
    if not isinstance(value, tuple):
        raise InvalidOrder(-1)
    boxes = boxes_of(standing)
    for at, box in enumerate(value):
        if box not in boxes or box in value[:at]:
            raise InvalidOrder(at)


def all_waits(yard, standing):
    """A dict with the wait of each box: so many others must have gone before it can."""
    free = free_places(yard, standing)
    waits = {}
    for stack, pile in enumerate(standing):
        for level, box in enumerate(pile):
            waits[box] = max(0, cover_of(yard, stack, level) - free)
    return waits


def wait_of(yard, standing, box):
    """How many others must have gone before a box can go."""
    need_standing(yard, standing)
    place_of(standing, box)
    return all_waits(yard, standing)[box]


def ready(yard, standing, number):
    """The lot of the boxes with a wait of at most a number."""
    waits = all_waits(yard, standing)
    return tuple(sorted([box for box in waits if waits[box] <= number]))


def stuck_going(yard, standing, goings):
    """The number of the first going that nobody can do, or None."""
    need_goings(yard, standing, goings)
    waits = all_waits(yard, standing)
    for at, box in enumerate(goings):
        if waits[box] > at:
            return at
    return None


def going_steps(yard, standing, goings):
    """Some steps that do all goings ahead of the stuck one."""
    stuck = stuck_going(yard, standing, goings)
    now = standing
    told = []
    for box in goings[:stuck]:
        steps = going_out(yard, now, box)
        now = after_steps(now, steps)
        told.extend(steps)
    return tuple(told)


def _need_many(boxes, many):
    if not 0 <= many <= boxes:
        raise InvalidSize("many")


def _choices(yard, boxes, many):
    """For each of so many goings how many boxes can be the next one then; it does not hang on who went."""
    free = places(yard) - boxes
    return [places(yard) - now - owed(yard, now + 1) for now in range(free, free + many)]


def _product(numbers):
    total = 1
    for number in numbers:
        total = total * number
    return total


def count_goings(yard, boxes, many):
    """How many goings of `many` boxes can be done from a standing with so many boxes."""
    need_boxes(yard, boxes)
    _need_many(boxes, many)
    return _product(_choices(yard, boxes, many))


def goings_at(yard, standing, many, number):
    """The goings with a number among all that can be done, in ascending order."""
    need_standing(yard, standing)
    boxes = count_boxes(standing)
    _need_many(boxes, many)
    choices = _choices(yard, boxes, many)
    if not 0 <= number < _product(choices):
        raise InvalidSize("number")
    row = []
    for at in range(many):
        each = _product(choices[at + 1:])
        left = [box for box in ready(yard, standing, at) if box not in row]
        row.append(left[number // each])
        number = number % each
    return tuple(row)


def goings_number(yard, standing, goings):
    """The number of goings among all of as many boxes that can be done, in ascending order."""
    if stuck_going(yard, standing, goings) is not None:
        raise Refused("goings")
    choices = _choices(yard, count_boxes(standing), len(goings))
    number = 0
    for at, box in enumerate(goings):
        left = [name for name in ready(yard, standing, at) if name not in goings[:at]]
        number = number * choices[at] + left.index(box)
    return number


def count_sources(yard, boxes, many):
    """From how many standings of told boxes told goings of `many` of them can be done."""
    each = count_goings(yard, boxes, many)
    return count_standings(yard, boxes) * each // perm(boxes, many)
