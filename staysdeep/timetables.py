"""Timetables: which boxes come and go, their states, and their texts."""

from staysdeep.atoms import is_name
from staysdeep.errors import InvalidSize, InvalidText, InvalidTimetable, NoName
from staysdeep.texts import need_text, parts
from staysdeep.yards import places

COMING = "in"
GOING = "out"


def is_event(value):
    """Whether any value is the coming or the going of a box."""
    if not isinstance(value, tuple) or len(value) != 2:
        return False
    return value[0] in (COMING, GOING) and is_name(value[1])


def _first_wrong(events, room, boxes, gone):
    """The number of the first thing that is no event, or cannot be done; None without one.

    There are so many places, and at first these boxes; others came before, and are gone.
    """
    known = list(boxes) + list(gone)
    came = set(known)
    there = set(boxes)
    for at, event in enumerate(events):
        if not is_event(event):
            return at
        word, box = event
        if word == COMING and (box in came or len(there) == room):
            return at
        if word == GOING and box not in there:
            return at
        if word == COMING:
            came.add(box)
            there.add(box)
        else:
            there.discard(box)
    return None


def need_events(value, room, boxes, gone=()):
    """Raises `InvalidTimetable` for what is no tuple of events with so many places, and at first these boxes.

    Others came before, and are gone: neither these nor those come again.
    """
    if not isinstance(value, tuple):
        raise InvalidTimetable(-1)
    at = _first_wrong(value, room, boxes, gone)
    if at is not None:
        raise InvalidTimetable(at)


def need_timetable(yard, value):
    """Returns None for a timetable of the yard, and raises `InvalidTimetable` for any other value."""
    need_events(value, places(yard), [])


def need_state(timetable, state):
    """Raises `InvalidSize("state")` for an integer that is no state of the timetable."""
    if not 0 <= state <= len(timetable):
        raise InvalidSize("state")


def timetable_boxes(timetable):
    """The lot of all boxes that come."""
    return tuple(sorted([box for word, box in timetable if word == COMING]))


def spans_from(boxes, events):
    """The triples of a box and the first and the last state in which it is there; these ones are there at first."""
    first = {box: 0 for box in boxes}
    last = {}
    for at, (word, box) in enumerate(events):
        if word == COMING:
            first[box] = at + 1
        else:
            last[box] = at
    return tuple(sorted([(box, first[box], last.get(box, len(events))) for box in first]))


def presences(timetable):
    """The triples of a box and the first and the last state in which it is there, ascending."""
    return spans_from([], timetable)


def presence(timetable, box):
    """The first and the last state in which a box is there."""
    for name, first, last in presences(timetable):
        if name == box:
            return first, last
    raise NoName(box)


def state_boxes(timetable, state):
    """The lot of the boxes that are there in a state."""
    need_state(timetable, state)
    return tuple([box for box, first, last in presences(timetable) if first <= state <= last])


def counts_from(free, events):
    """The number of free places in each state, where so many are free at first."""
    counts = [free]
    for word, _ in events:
        counts.append(counts[-1] - 1 if word == COMING else counts[-1] + 1)
    return tuple(counts)


def free_counts(yard, timetable):
    """The number of free places in each state."""
    need_timetable(yard, timetable)
    return counts_from(places(yard), timetable)


def timetable_text(timetable):
    """A line for each event, like `in a` or `out a`."""
    return "\n".join([f"{word} {box}" for word, box in timetable])


def read_timetable(text):
    """The timetable that has this text; of how many places is not asked."""
    need_text(text)
    events = [tuple(line.split(" ")) for line in parts(text, "\n")]
    at = _first_wrong(events, len(events), [], [])
    if at is not None:
        raise InvalidText(at)
    return tuple(events)
