"""Help for a timetable: what of it counts, the weakest yard for it, and the fewest further places."""

from staysdeep.compared import all_boxes, best_yard, level_heights, levelled
from staysdeep.stretches import rows_below, staying
from staysdeep.timetables import counts_from, presences
from staysdeep.yards import GREATEST_HEIGHT, Yard, places


def stay_row(timetable):
    """For each number of boxes from 1 on the fewest that stay through a longest row of states with no fewer."""
    # So many places are free in a yard without places; whoever has more boxes has fewer of them.
    counts = counts_from(0, timetable)
    spans = presences(timetable)
    row = []
    for boxes in range(1, 1 - min(counts)):
        row.append(min([len(staying(spans, stretch)) for stretch in rows_below(counts, -boxes)]))
    return tuple(row)


def carries_row(heights, row):
    """Whether a yard with stacks of any heights carries out a timetable with this `stay_row`."""
    total = sum(heights)
    if total < len(row):
        return False
    for at, most in enumerate(row):
        free = total - at - 1
        if sum([max(0, height - free) for height in heights]) > most:
            return False
    return True


def _tallest_next(heights, rest, left, row):
    """The greatest height of a next stack with which so many others can still share the rest of the places."""
    # The others carry out the most if they are level.
    ways = [(height, heights + [height] + level_heights(rest - height, left)) for height in range(1, rest - left + 1)]
    return max([height for height, way in ways if height <= GREATEST_HEIGHT and carries_row(way, row)])


def weakest_yard(timetable, total, stacks):
    """Of all yards with so many places and stacks that carry out the timetable the weakest one, or None."""
    best = best_yard(total, stacks)
    row = stay_row(timetable)
    if not carries_row(best.heights, row):
        return None
    heights = []
    for left in range(stacks - 1, -1, -1):
        heights.append(_tallest_next(heights, total - sum(heights), left, row))
    return Yard(heights)


def fewest_places(yard, events):
    """The least number of further places for `levelled` with which the yard carries out the events, or None."""
    row = stay_row(events)
    for more in range(len(yard.heights) * GREATEST_HEIGHT - places(yard) + 1):
        if carries_row(levelled(yard, more).heights, row):
            return more
    return None


def further_stack(yard, events):
    """The least number of places of a further stack with which the yard carries out the events, or None."""
    row = stay_row(events)
    # If any number is enough, so many are; the further stack may be higher than those of a yard.
    enough = max(0, len(row) - all_boxes(yard))
    for more in range(enough + 1):
        if carries_row(list(yard.heights) + [more], row):
            return more
    return None
