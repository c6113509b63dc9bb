"""Mirrors: timetables and papers with time going back; and yards emptied behind a timetable."""

from staysdeep.court import Dealt, Short, court, kept_at
from staysdeep.errors import Refused
from staysdeep.timetables import COMING, GOING, need_timetable, state_boxes
from staysdeep.yards import cover_of


def mirror(timetable):
    """The events from the last to the first, with coming and going exchanged."""
    if state_boxes(timetable, len(timetable)):
        raise Refused("boxes")
    return tuple([(GOING if word == COMING else COMING, box) for word, box in reversed(timetable)])


def _turned(timetable, stretch):
    """A stretch as it is for the mirrored timetable."""
    first, last = stretch
    return len(timetable) - last, len(timetable) - first


def mirror_paper(timetable, paper):
    """A `Dealt` or a `Short` as it is for the mirrored timetable."""
    if state_boxes(timetable, len(timetable)):
        raise Refused("boxes")
    if isinstance(paper, Short):
        return Short(paper.cover, _turned(timetable, paper.stretch), paper.stayers)
    return Dealt(tuple(sorted([(place, _turned(timetable, stretch), box) for place, stretch, box in paper.table])))


def emptied(yard, timetable):
    """The timetable with a going of each box that stays to the end behind it."""
    need_timetable(yard, timetable)
    covers = {}
    paper = court(yard, timetable)
    if isinstance(paper, Dealt):
        for (stack, level), box in kept_at(paper, len(timetable)):
            covers[box] = cover_of(yard, stack, level)
    left = state_boxes(timetable, len(timetable))
    # Boxes without a place go first.
    order = sorted([(covers.get(box, -1), box) for box in left])
    return timetable + tuple([(GOING, box) for _, box in order])
