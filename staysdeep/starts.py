"""Told starts: events behind a standing, what can be carried out from there, and the steps for it."""

from staysdeep.atoms import is_same
from staysdeep.court import Dealt, Short, deal, is_right_table, shorts_among, stuck_goings
from staysdeep.errors import Refused
from staysdeep.mover import paper_steps
from staysdeep.standings import boxes_of, need_standing
from staysdeep.stretches import staying, stretches_of
from staysdeep.timetables import counts_from, need_events, spans_from
from staysdeep.yards import layer, places


class Torn:
    """A paper: what lies in a place at the start, or is wished there in the end, cannot lie there all along."""

    def __init__(self, place, stretch, start, end):
        self.place = place
        self.stretch = stretch
        self.start = start
        self.end = end

    def __eq__(self, other):
        return (
            isinstance(other, Torn) and self.place == other.place and self.stretch == other.stretch
            and self.start == other.start and self.end == other.end
        )


class Onward:
    """Events behind some boxes: `told` has the pairs (cover, stretch), `spans` the presences.

    `starts` and `ends` have for pairs (place, stretch) the boxes that lie there at the start, or are wished there in
    the end; at first none are told.
    """

    def __init__(self, yard, boxes, events):
        self.yard = yard
        self.last = len(events)
        self.told = stretches_of(yard, counts_from(places(yard) - len(boxes), events))
        self.spans = spans_from(boxes, events)
        self.starts = {}
        self.ends = {}

    def lain(self, standing, state):
        """The boxes that lie so in the places that are deep in a state, by place and stretch."""
        found = {}
        for cover, stretch in self.told:
            if stretch[0] <= state <= stretch[1]:
                for stack, level in layer(self.yard, cover):
                    found[((stack, level), stretch)] = standing[stack][level]
        return found

    def fixed(self):
        """All boxes that are told, by place and stretch."""
        found = {key: self.starts[key] for key in self.starts}
        for key in self.ends:
            found[key] = self.ends[key]
        return found

    def unbound(self):
        """The pairs (cover, stretch) for which no boxes are told."""
        bound = {stretch: True for _, stretch in self.fixed()}
        return [row for row in self.told if row[1] not in bound]

    def torns(self):
        """All right papers of this kind, by places, then by stretches."""
        found = []
        for place, stretch in sorted(self.fixed()):
            start, end = self.starts.get((place, stretch)), self.ends.get((place, stretch))
            boxes = [box for box in (start, end) if box is not None]
            lot = staying(self.spans, stretch)
            if boxes[0] != boxes[-1] or boxes[0] not in lot:
                found.append(Torn(place, stretch, start, end))
        return found

    def paper(self):
        """The first `Torn`, else the first `Short`, else what is dealt."""
        torns = self.torns()
        if torns:
            return torns[0]
        found = shorts_among(self.yard, self.unbound(), self.spans)
        if found:
            return found[0]
        return Dealt(deal(self.yard, self.told, self.spans, self.fixed()))

    def takes(self, value):
        """Whether any value is a right paper."""
        if isinstance(value, Torn):
            return any([_is_torn(value, torn) for torn in self.torns()])
        if isinstance(value, Short):
            return any([_is_short(value, short) for short in shorts_among(self.yard, self.unbound(), self.spans)])
        if not isinstance(value, Dealt) or not is_right_table(self.yard, self.told, self.spans, value.table):
            return False
        for place, stretch, box in value.table:
            if self.starts.get((place, stretch), box) != box or self.ends.get((place, stretch), box) != box:
                return False
        return True


def _is_torn(value, torn):
    """Whether a `Torn`, of any values, is just this one."""
    told = (value.place, value.stretch, value.start, value.end)
    return is_same(told, (torn.place, torn.stretch, torn.start, torn.end))


def _is_short(value, short):
    """Whether a `Short`, of any values, is just this one."""
    told = (value.cover, value.stretch, value.stayers)
    return is_same(told, (short.cover, short.stretch, short.stayers))


def need_onward(yard, standing, value):
    """Returns None for events behind the standing, and raises `InvalidTimetable` for any other value."""
    need_standing(yard, standing)
    need_events(value, places(yard), boxes_of(standing))


def onward_from(yard, standing, events):
    """Events behind a standing; raises an error for what is no such thing."""
    need_onward(yard, standing, events)
    onward = Onward(yard, boxes_of(standing), events)
    onward.starts = onward.lain(standing, 0)
    return onward


def start_court(yard, standing, events):
    """The first `Torn`, else the first `Short`, else what is dealt."""
    return onward_from(yard, standing, events).paper()


def check_start(yard, standing, events, value):
    """Whether any value is some right `Torn`, `Short` or `Dealt`."""
    return onward_from(yard, standing, events).takes(value)


def start_steps(yard, standing, events, dealt):
    """Some steps that carry out the events from the standing on, and keep the paper."""
    onward = onward_from(yard, standing, events)
    if not isinstance(dealt, Dealt) or not onward.takes(dealt):
        raise Refused("paper")
    return paper_steps(yard, standing, events, dealt.table)


def start_stuck(yard, standing, events):
    """The number of the first event that nobody can do from the standing on, or None."""
    onward = onward_from(yard, standing, events)
    last_of = {box: last for box, _, last in onward.spans}
    found = [last_of[torn.start] for torn in onward.torns()]
    return min(found + stuck_goings(yard, onward.unbound(), onward.spans), default=None)
