"""Marks: what counts of a timetable for all that comes behind it; and two timetables woven into one."""

from math import comb

from staysdeep.atoms import is_name, is_whole, new_names
from staysdeep.errors import InvalidOrder, Refused
from staysdeep.stretches import owed
from staysdeep.timetables import COMING, GOING, free_counts, need_events, need_timetable, presences, timetable_boxes
from staysdeep.yards import deep_count, need_boxes, places

# Further boxes before a table and behind it have unlike names, so that both can be put together.
PAST = "old"
FUTURE = "new"


def tallest(yard):
    return max(yard.heights)


def marks(yard, timetable):
    """The table of a timetable: the pairs of a box and its mark, for the boxes of the last state."""
    counts = free_counts(yard, timetable)
    spans = presences(timetable)
    there = [(box, first) for box, first, last in spans if last == len(timetable)]
    return tuple([(box, min(tallest(yard), max(counts[first - 1:]))) for box, first in there])


def need_marks(yard, value):
    """Returns None for what has the form of a table, and raises `InvalidOrder` for any other value."""
    if not isinstance(value, tuple) or len(value) > places(yard):
        raise InvalidOrder(-1)
    least = min(tallest(yard), places(yard) - len(value))
    for at, pair in enumerate(value):
        if not isinstance(pair, tuple) or len(pair) != 2 or not is_name(pair[0]) or not is_whole(pair[1]):
            raise InvalidOrder(at)
        if not least <= pair[1] <= tallest(yard) or (at > 0 and pair[0] <= value[at - 1][0]):
            raise InvalidOrder(at)


def _above(table, cover):
    """How many marks are above a cover."""
    return len([mark for _, mark in table if mark > cover])


def open_covers(yard, table):
    """The covers from the number of free places on that some place has."""
    return list(range(places(yard) - len(table), tallest(yard)))


def _comes(yard, table):
    """Whether some timetable with this table can be carried out."""
    for cover in open_covers(yard, table):
        if not owed(yard, cover) <= _above(table, cover) <= places(yard) - cover:
            return False
    return True


def marks_come(yard, table):
    """Whether some timetable with this table can be carried out."""
    need_marks(yard, table)
    return _comes(yard, table)


def need_coming_marks(yard, tables):
    """Raises an error for the first value that is no table, then for the first one that does not come."""
    for table in tables:
        need_marks(yard, table)
    for table in tables:
        if not _comes(yard, table):
            raise Refused("marks")


def next_table(yard, table, event):
    """The table behind one more event."""
    word, box = event
    free = places(yard) - len(table)
    if word == COMING:
        return tuple(sorted(table + ((box, min(free, tallest(yard))),)))
    least = min(free + 1, tallest(yard))
    return tuple([(name, max(mark, least)) for name, mark in table if name != box])


def is_held(yard, table):
    """Whether enough boxes have been there through each stretch that has the last state."""
    return all([_above(table, cover) >= owed(yard, cover) for cover in open_covers(yard, table)])


def table_names(table):
    return [box for box, _ in table]


def _tables_on(yard, table, events):
    """The tables before all events and behind each one, up to the first event that cannot be carried out."""
    need_coming_marks(yard, [table])
    need_events(events, places(yard), table_names(table))
    way = [table]
    for event in events:
        behind = next_table(yard, way[-1], event)
        if not is_held(yard, behind):
            break
        way.append(behind)
    return way


def goes_on(yard, table, events):
    """The number of the first event that cannot be carried out behind a table, or None."""
    way = _tables_on(yard, table, events)
    return None if len(way) > len(events) else len(way) - 1


def marks_behind(yard, table, events):
    """The table behind events that can all be carried out."""
    way = _tables_on(yard, table, events)
    if len(way) <= len(events):
        raise Refused(len(way) - 1)
    return way[-1]


def may_go(yard, table):
    """The lot of the boxes that can go next."""
    need_coming_marks(yard, [table])
    free = places(yard) - len(table)
    tight = [cover for cover in open_covers(yard, table) if cover > free and _above(table, cover) == owed(yard, cover)]
    most = min(tight, default=tallest(yard))
    return tuple([box for box, mark in table if mark <= most])


def past_with(yard, table):
    """Some timetable with this table that can be carried out."""
    need_coming_marks(yard, [table])
    most, free = tallest(yard), places(yard) - len(table)
    # Enough for each event below: a box of another name comes only to fill the yard, and goes at most once.
    spare = new_names(PAST, table_names(table), places(yard) + most)
    events = [(COMING, box) for box, mark in table if mark == most]
    there = []
    if free < most:
        there = _fill(events, spare, places(yard) - most + 1 - len(events))
    for level in range(most - 1, free - 1, -1):
        # Here just `level` places are free, and all boxes with greater marks are there.
        lot = [box for box, mark in table if mark == level]
        for at, box in enumerate(lot):
            events.append((COMING, box))
            if level == free or at < len(lot) - 1:
                events.append((GOING, there.pop()))
        if level > free and not lot:
            there = there + _fill(events, spare, 1)
    return tuple(events)


def _fill(events, spare, many):
    """Lets so many spare boxes come, which it returns."""
    comers = [spare.pop() for _ in range(many)]
    events.extend([(COMING, box) for box in comers])
    return comers


def count_marks(yard, boxes):
    """How many tables of so many told boxes come."""
    need_boxes(yard, boxes)
    total = places(yard)
    # Item k has the number of ways to choose k boxes with marks above the cover, and their marks.
    ways = [1] + [0] * boxes
    for cover in range(tallest(yard) - 1, total - boxes - 1, -1):
        least, most = owed(yard, cover), min(boxes, total - cover)
        ways = [_ways_to(ways, boxes, many) if least <= many <= most else 0 for many in range(boxes + 1)]
    # The other ones have the least mark.
    return sum(ways)


def _ways_to(ways, boxes, many):
    """In how many ways more of the boxes get the next mark, so that there are so many."""
    return sum([ways[had] * comb(boxes - had, many - had) for had in range(many + 1)])


def _need_same_boxes(yard, one, other):
    need_coming_marks(yard, [one, other])
    if table_names(one) != table_names(other):
        raise Refused("boxes")


def _worse(one, other):
    """The triples (box, mark, greater mark) of the boxes that have a less mark in the one table."""
    return [(box, mark, better) for (box, mark), (_, better) in zip(one, other) if mark < better]


def as_good(yard, one, other):
    """Whether all events that go on behind the other table go on behind the one."""
    _need_same_boxes(yard, one, other)
    return len(_worse(one, other)) == 0


def parting(yard, one, other):
    """Some events that go on behind the other table and do not behind the one, or None."""
    _need_same_boxes(yard, one, other)
    worse = _worse(one, other)
    if not worse:
        return None
    box_of = {cover: box for box, cover, _ in worse}
    told = [_parting_at(yard, other, box, cover) for cover, box in box_of.items()]
    events = min(told, key=len)
    return events[:goes_on(yard, one, events) + 1]


def _parting_at(yard, table, box, cover):
    """Events that go on behind the table, and of those with marks above the cover need this box.

    Behind them this box and others stay of those with marks above the cover, just so many as are owed to it.
    """
    total = places(yard)
    best = sorted([(name == box, mark, name) for name, mark in table], reverse=True)
    # What the greater covers need is among those with the greatest marks; so the others may go, the least mark first.
    goers = [name for _, _, name in best[owed(yard, cover):]]
    fill = new_names(FUTURE, table_names(table), len(goers))
    events = []
    free = total - len(table)
    while goers:
        if free == cover:
            events.append((COMING, fill.pop()))
            free -= 1
        events.append((GOING, goers.pop()))
        free += 1
    return tuple(events)


def _need_apart(yard, one, other):
    """Raises an error unless both are timetables of the yard without a common box."""
    need_timetable(yard, one)
    need_timetable(yard, other)
    boxes = timetable_boxes(one)
    if any([box in boxes for box in timetable_boxes(other)]):
        raise Refused("boxes")


def _box_counts(yard, timetable):
    """How many boxes are there in each state."""
    return [places(yard) - free for free in free_counts(yard, timetable)]


def _pairs_on(here, there, start):
    """The pairs of states to which a way leads with never fewer boxes than at its start, each with the one before."""
    fewest = here[start[0]] + there[start[1]]
    known = {start: None}
    waiting = [start]
    while waiting:
        at, back = waiting.pop()
        for pair in ((at + 1, back), (at, back + 1)):
            inside = pair[0] < len(here) and pair[1] < len(there)
            if inside and pair not in known and here[pair[0]] + there[pair[1]] >= fewest:
                known[pair] = (at, back)
                waiting.append(pair)
    return known


def _weave_over(one, other, known, end):
    """A weave that begins anyhow, goes on the way that is known to a pair of states, and ends anyhow."""
    middle = []
    pair = end
    while known[pair] is not None:
        before = known[pair]
        middle.append(one[before[0]] if before[0] < pair[0] else other[before[1]])
        pair = before
    return one[:pair[0]] + other[:pair[1]] + tuple(middle[::-1]) + one[end[0]:] + other[end[1]:]


def _stay_count(spans, first, last):
    return len([box for box, begin, end in spans if begin <= first and last <= end])


def _bad_way(yard, one, other, start):
    """A weave that cannot be carried out for what stays on a way from these states on, or None."""
    here, there = _box_counts(yard, one), _box_counts(yard, other)
    needs = deep_count(yard, here[start[0]] + there[start[1]])
    ours, theirs = presences(one), presences(other)
    known = _pairs_on(here, there, start)
    for end in known:
        if _stay_count(ours, start[0], end[0]) + _stay_count(theirs, start[1], end[1]) < needs:
            return _weave_over(one, other, known, end)
    return None


def every_weave(yard, one, other):
    """None if each weave can be carried out, otherwise some weave that cannot."""
    _need_apart(yard, one, other)
    here, there = _box_counts(yard, one), _box_counts(yard, other)
    fullest = (here.index(max(here)), there.index(max(there)))
    if max(here) + max(there) > places(yard):
        return _weave_over(one, other, {fullest: None}, fullest)
    for at in range(len(here)):
        for back in range(len(there)):
            weave = _bad_way(yard, one, other, (at, back))
            if weave is not None:
                return weave
    return None


def _next_of(one, other, at, back):
    """The pairs of an event that can come next in a weave, and how many of the one timetable are done then."""
    told = []
    if at < len(one):
        told.append((one[at], at + 1))
    if back < len(other):
        told.append((other[back], at))
    return told


def _good_weaves(yard, one, other):
    """Pairs (how many, one of them) of the weaves that can be carried out, together by their last tables."""
    level = {(0, ()): (1, ())}
    for done in range(len(one) + len(other)):
        further = {}
        for (at, table), (many, weave) in level.items():
            for event, ahead in _next_of(one, other, at, done - at):
                behind = next_table(yard, table, event)
                if len(behind) <= places(yard) and is_held(yard, behind):
                    had = further.get((ahead, behind), (0, None))[0]
                    further[(ahead, behind)] = (had + many, weave + (event,))
        level = further
    return list(level.values())


def some_weave(yard, one, other):
    """Some weave that can be carried out, or None."""
    _need_apart(yard, one, other)
    found = _good_weaves(yard, one, other)
    return found[0][1] if found else None


def count_weaves(yard, one, other):
    """How many weaves can be carried out."""
    _need_apart(yard, one, other)
    return sum([many for many, _ in _good_weaves(yard, one, other)])
