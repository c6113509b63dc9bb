"""Stretches: the times in which places are deep, and who stays through them."""

from staysdeep.errors import InvalidSize
from staysdeep.timetables import free_counts, need_state, need_timetable, presences


def owed(yard, cover):
    """The number of places of a cover or a greater one: so many boxes have to stay through its stretches."""
    return sum([max(0, height - cover) for height in yard.heights])


def rows_below(counts, cover):
    """The longest rows of states with at most so many free places, as pairs (first, last), ascending."""
    found = []
    for state, free in enumerate(counts):
        if free <= cover:
            goes_on = len(found) > 0 and found[-1][1] == state - 1
            first = found.pop()[0] if goes_on else state
            found.append((first, state))
    return tuple(found)


def stretches(yard, timetable, cover):
    """All stretches of a cover, ascending."""
    return rows_below(free_counts(yard, timetable), cover)


def stretches_of(yard, counts):
    """The pairs of a cover that a place has and a stretch of it, ascending; so many places are free in the states."""
    return [(cover, stretch) for cover in range(max(yard.heights)) for stretch in rows_below(counts, cover)]


def all_stretches(yard, timetable):
    """The pairs of a cover that a place has and a stretch of it, ascending."""
    return stretches_of(yard, free_counts(yard, timetable))


def stretch_at(yard, timetable, cover, state):
    """The stretch of a cover that has the state, or None."""
    need_timetable(yard, timetable)
    need_state(timetable, state)
    for first, last in stretches(yard, timetable, cover):
        if first <= state <= last:
            return first, last
    return None


def need_stretch(timetable, stretch):
    """Raises `InvalidSize("stretch")` for a pair of integers that are no states, or go back."""
    first, last = stretch
    if not 0 <= first <= last <= len(timetable):
        raise InvalidSize("stretch")


def staying(spans, stretch):
    """The lot of the boxes of these presences, ascending, that are there in all states of a stretch."""
    return tuple([box for box, first, last in spans if first <= stretch[0] and stretch[1] <= last])


def stayers(yard, timetable, stretch):
    """The lot of the boxes that are there in all states from the first to the last one of a pair."""
    need_timetable(yard, timetable)
    need_stretch(timetable, stretch)
    return staying(presences(timetable), stretch)


def balances(yard, timetable):
    """For each cover that a place has, and each of its stretches, how many more boxes stay than are owed."""
    told = all_stretches(yard, timetable)
    spans = presences(timetable)
    return tuple([(cover, stretch, len(staying(spans, stretch)) - owed(yard, cover)) for cover, stretch in told])
