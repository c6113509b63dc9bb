"""Yards compared: which one carries out what another one does, and what both or either of them do."""

from staysdeep.atoms import new_names
from staysdeep.errors import InvalidSize, Refused
from staysdeep.timetables import COMING, GOING
from staysdeep.yards import FEWEST_STACKS, GREATEST_HEIGHT, MOST_STACKS, Yard, deep_count, places

# The names of boxes in timetables that show something begin so.
SHOWN = "box"


def carries_all(yard, other):
    """Whether a yard carries out every timetable that the other one carries out."""
    if places(yard) < places(other):
        return False
    return all([deep_count(yard, boxes) <= deep_count(other, boxes) for boxes in range(places(other) + 1)])


def _comings(boxes):
    return tuple([(COMING, box) for box in boxes])


def _trouble(boxes, deep):
    """A timetable with so many boxes, or one more, from some state on; fewer boxes stay than so many deep places need.

    First all these boxes come; then all but the first ones of them, one less than the deep places, go, each behind
    the coming of another one.
    """
    names = new_names(SHOWN, [], 2 * boxes + 1 - deep)
    goers = names[deep - 1:boxes]
    events = []
    for comer, goer in zip(names[boxes:], goers):
        events.extend([(COMING, comer), (GOING, goer)])
    return _comings(names[:boxes]) + tuple(events)


def parted_by(yard, other):
    """Some timetable of the fewest events that the other yard carries out and the first one does not, or None."""
    total, room = places(yard), places(other)
    counts = [(boxes, deep_count(yard, boxes), deep_count(other, boxes)) for boxes in range(min(total + 1, room))]
    found = [_trouble(boxes, deep) for boxes, deep, less in counts if deep > less]
    if room > total:
        found.append(_comings(new_names(SHOWN, [], total + 1)))
    return min(found, key=len, default=None)


def _yard_with(deeps):
    """The yard, its highest stacks first, that has so many deep places while 0, 1, 2 .. places are free."""
    # With each free place more, one place less is deep in each stack that is higher.
    higher = [deep - less for deep, less in zip(deeps, deeps[1:])]
    return Yard([len([many for many in higher if many > stack]) for stack in range(higher[0])])


def common_yard(yard, other):
    """The yard that carries out exactly what both carry out, its highest stacks first."""
    total = min(places(yard), places(other))
    rising = [max(deep_count(yard, boxes), deep_count(other, boxes)) for boxes in range(total + 1)]
    return _yard_with(rising[::-1])


def _highest_sums(yard):
    """How many places the 0, 1, 2 .. highest stacks have together, for as many stacks as any yard has."""
    heights = sorted(yard.heights, reverse=True)
    return [sum(heights[:many]) for many in range(MOST_STACKS + 1)]


def either_yard(yard, other):
    """The weakest yard that carries out all that either does, of as many places, its highest stacks first."""
    if places(yard) != places(other):
        raise Refused("places")
    sums = [min(one, two) for one, two in zip(_highest_sums(yard), _highest_sums(other))]
    heights = [more - less for less, more in zip(sums, sums[1:])]
    return Yard([height for height in heights if height > 0])


def level_heights(total, stacks):
    """The heights of so many stacks with so many places, that differ by at most one, the highest first."""
    return [(total + stacks - 1 - stack) // stacks for stack in range(stacks)]


def need_total(total, stacks):
    """Raises `InvalidSize` for integers that are not the numbers of places and of stacks of a yard."""
    if not FEWEST_STACKS <= stacks <= MOST_STACKS:
        raise InvalidSize("stacks")
    if not stacks <= total <= stacks * GREATEST_HEIGHT:
        raise InvalidSize("total")


def best_yard(total, stacks):
    """The yard of so many places and stacks that carries out all that any other one does."""
    need_total(total, stacks)
    return Yard(level_heights(total, stacks))


def levelled(yard, more):
    """The yard with further places, put on one after another, each on the first of the lowest stacks."""
    if not 0 <= more <= len(yard.heights) * GREATEST_HEIGHT - places(yard):
        raise InvalidSize("more")
    heights = list(yard.heights)
    for _ in range(more):
        heights[heights.index(min(heights))] += 1
    return Yard(heights)


def all_boxes(yard):
    """The greatest number such that timetables with never more boxes at a time are all carried out."""
    return places(yard) - max(yard.heights) + 1


def least_trouble(yard):
    """Some timetable of the yard, of the fewest events, that it does not carry out, or None."""
    counts = [(boxes, deep_count(yard, boxes)) for boxes in range(places(yard))]
    return min([_trouble(boxes, deep) for boxes, deep in counts if deep > 0], key=len, default=None)
