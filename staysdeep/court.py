"""The court: it deals boxes to the deep places, or tells through which stretch too few boxes stay."""

from math import perm

from staysdeep.atoms import is_name, is_number, is_same
from staysdeep.stretches import all_stretches, owed, staying, stretches
from staysdeep.timetables import need_timetable, presences
from staysdeep.yards import layer


class Dealt:
    """A paper that tells for each place and each stretch of its cover the box that lies there."""

    def __init__(self, table):
        self.table = table

    def __eq__(self, other):
        return isinstance(other, Dealt) and self.table == other.table


class Short:
    """A paper that tells a stretch of a cover through which fewer boxes stay than it is owed."""

    def __init__(self, cover, stretch, stayers):
        self.cover = cover
        self.stretch = stretch
        self.stayers = stayers

    def __eq__(self, other):
        return (
            isinstance(other, Short) and self.cover == other.cover and self.stretch == other.stretch
            and self.stayers == other.stayers
        )


def shorts_among(yard, told, spans):
    """A `Short` for each of these pairs (cover, stretch) whose stretch has fewer stayers than it is owed."""
    found = []
    for cover, stretch in told:
        lot = staying(spans, stretch)
        if len(lot) < owed(yard, cover):
            found.append(Short(cover, stretch, lot))
    return tuple(found)


def shorts(yard, timetable):
    """A `Short` for each stretch with fewer stayers than it is owed, by cover, then by stretch."""
    return shorts_among(yard, all_stretches(yard, timetable), presences(timetable))


def can_be_done(yard, timetable):
    """Whether the timetable can be carried out."""
    return len(shorts(yard, timetable)) == 0


def deal(yard, told, spans, fixed):
    """The triples (place, stretch, box) that are dealt, ascending, where no stretch has too few stayers.

    `fixed` has the boxes of those pairs (place, stretch) for which they are told before: of all places, or of none,
    in each stretch of a cover.
    """
    # Presences ascend by name, so of boxes that end alike the least name stays first.
    falling = sorted(spans, key=lambda span: -span[2])
    kept_until = {}
    table = []
    for cover, stretch in sorted(told, key=lambda row: row[1][0]):
        begin, end = stretch
        lying = layer(yard, cover)
        boxes = [fixed[(place, stretch)] for place in lying if (place, stretch) in fixed]
        if not boxes:
            boxes = [box for box, first, last in falling if first <= begin <= last and kept_until.get(box, -1) < begin]
        for place, box in zip(lying, boxes):
            kept_until[box] = end
            table.append((place, stretch, box))
    return tuple(sorted(table))


def court(yard, timetable):
    """The first `Short`, if there is one, and else what is dealt."""
    found = shorts(yard, timetable)
    if found:
        return found[0]
    return Dealt(deal(yard, all_stretches(yard, timetable), presences(timetable), {}))


def _is_short(yard, timetable, value):
    """Whether a `Short`, of any values, is right."""
    if not is_number(value.cover):
        return False
    for stretch in stretches(yard, timetable, value.cover):
        if is_same(value.stretch, stretch):
            lot = staying(presences(timetable), stretch)
            return is_same(value.stayers, lot) and len(lot) < owed(yard, value.cover)
    return False


def _has_triples(yard, told, table):
    """Whether any value is a tuple of triples, one for each place and stretch, ascending, each with a name."""
    wanted = sorted([(place, stretch) for cover, stretch in told for place in layer(yard, cover)])
    if not isinstance(table, tuple) or len(table) != len(wanted):
        return False
    for triple, pair in zip(table, wanted):
        if not isinstance(triple, tuple) or len(triple) != 3:
            return False
        if not is_same(triple[:2], pair) or not is_name(triple[2]):
            return False
    return True


def _all_stay(spans, table):
    """Whether each box of the triples stays through its stretch."""
    there = {box: (first, last) for box, first, last in spans}
    for _, stretch, box in table:
        if box not in there or not there[box][0] <= stretch[0] <= stretch[1] <= there[box][1]:
            return False
    return True


def _are_apart(table):
    """Whether no box lies in two places at a time."""
    rows = sorted([(box, stretch) for _, stretch, box in table])
    for at in range(1, len(rows)):
        (box, before), (other, behind) = rows[at - 1], rows[at]
        if box == other and before[1] >= behind[0]:
            return False
    return True


def is_right_table(yard, told, spans, table):
    """Whether any value is a right table for these pairs (cover, stretch), and boxes with these presences."""
    return _has_triples(yard, told, table) and _all_stay(spans, table) and _are_apart(table)


def check_court(yard, timetable, value):
    """Whether any value is some right `Short`, or some right `Dealt`."""
    need_timetable(yard, timetable)
    if isinstance(value, Short):
        return _is_short(yard, timetable, value)
    if not isinstance(value, Dealt):
        return False
    return is_right_table(yard, all_stretches(yard, timetable), presences(timetable), value.table)


def kept_at(dealt, state):
    """The pairs (place, box) of the triples whose stretch has the state, ascending."""
    return tuple(sorted([(place, box) for place, (first, last), box in dealt.table if first <= state <= last]))


def deal_ways(yard, told, spans):
    """In how many ways boxes can be dealt to all places in these stretches."""
    many = 1
    for cover, stretch in told:
        spare = len(staying(spans, stretch)) - owed(yard, cover + 1)
        many = many * perm(spare, len(layer(yard, cover))) if spare > 0 else 0
    return many


def dealings_count(yard, timetable):
    """The number of all right tables."""
    return deal_ways(yard, all_stretches(yard, timetable), presences(timetable))


def stuck_goings(yard, told, spans):
    """The numbers of the goings behind which too few boxes are left to stay through one of these stretches."""
    found = []
    for cover, (begin, end) in told:
        ends = sorted([last for _, first, last in spans if first <= begin <= last], reverse=True)
        # So many boxes must stay; of those that go on longest, the last one of so many goes first.
        going = ends[owed(yard, cover) - 1]
        if going < end:
            found.append(going)
    return found


def stuck_event(yard, timetable):
    """The number of the first event that nobody can do, or None."""
    return min(stuck_goings(yard, all_stretches(yard, timetable), presences(timetable)), default=None)
