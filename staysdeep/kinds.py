"""Kinds: boxes that are asked for by their kind, and who of a kind goes."""

from staysdeep.atoms import is_name, is_number, is_same
from staysdeep.court import Dealt, Short, can_be_done, check_court, court
from staysdeep.errors import InvalidSize, InvalidTimetable, Refused
from staysdeep.stretches import need_stretch, owed, stretches
from staysdeep.timetables import COMING, GOING, is_event
from staysdeep.yards import places

MOST_CHOICES = 300


class Given:
    """A paper: a choice that can be carried out, and the table that shows it."""

    def __init__(self, choice, table):
        self.choice = choice
        self.table = table

    def __eq__(self, other):
        return isinstance(other, Given) and self.choice == other.choice and self.table == other.table


class Lacking:
    """A paper: the least numbers there of all kinds through a stretch are together less than it is owed."""

    def __init__(self, cover, stretch, leasts):
        self.cover = cover
        self.stretch = stretch
        self.leasts = leasts

    def __eq__(self, other):
        return (
            isinstance(other, Lacking) and self.cover == other.cover and self.stretch == other.stretch
            and self.leasts == other.leasts
        )


def _is_request(value):
    """Whether any value is the coming of a box of a kind, or asks for a kind."""
    if not isinstance(value, tuple) or len(value) < 2:
        return False
    many = {COMING: 3, GOING: 2}
    if value[0] not in (COMING, GOING) or len(value) != many[value[0]]:
        return False
    return all([is_name(word) for word in value[1:]])


def _first_wrong(requests, room):
    """The number of the first thing that is no request or cannot be done with so many places; None without one."""
    came = set()
    there = {}
    for at, request in enumerate(requests):
        if not _is_request(request):
            return at
        kind = request[-1]
        many = there.get(kind, 0)
        if request[0] == GOING:
            if many == 0:
                return at
            there[kind] = many - 1
        else:
            if request[1] in came or sum(list(there.values())) == room:
                return at
            came.add(request[1])
            there[kind] = many + 1
    return None


def need_requests(yard, value):
    """Returns None for requests of the yard, and raises `InvalidTimetable` for any other value."""
    if not isinstance(value, tuple):
        raise InvalidTimetable(-1)
    at = _first_wrong(value, places(yard))
    if at is not None:
        raise InvalidTimetable(at)


def _all_kinds(requests):
    """The lot of the kinds that come."""
    return tuple(sorted({request[2] for request in requests if request[0] == COMING}))


def kind_counts(requests, kind):
    """How many boxes of a kind are there in each state."""
    counts = [0]
    for request in requests:
        change = 0
        if request[-1] == kind:
            change = 1 if request[0] == COMING else -1
        counts.append(counts[-1] + change)
    return tuple(counts)


def least_there(requests, kind, stretch):
    """The least number of boxes of a kind in the states of a pair, and in those between them."""
    need_stretch(requests, stretch)
    first, last = stretch
    return min(kind_counts(requests, kind)[first:last + 1])


def _open_boxes(there, request):
    """The boxes that can be taken for a request; `there` has for each kind its boxes in the order of their coming."""
    return [request[1]] if request[0] == COMING else there[request[1]]


def _take(there, request, box):
    """Changes what is there as a box comes or goes for a request."""
    if request[0] == COMING:
        there.setdefault(request[2], []).append(box)
    else:
        there[request[1]].remove(box)


def is_choice(requests, value):
    """Whether any value is a choice."""
    if not isinstance(value, tuple) or len(value) != len(requests):
        return False
    there = {}
    for request, event in zip(requests, value):
        if not is_event(event) or event[0] != request[0] or event[1] not in _open_boxes(there, request):
            return False
        _take(there, request, event[1])
    return True


def _open_counts(requests):
    """For each request how many boxes can be taken for it."""
    counts = {kind: kind_counts(requests, kind) for kind in _all_kinds(requests)}
    return [1 if request[0] == COMING else counts[request[1]][at] for at, request in enumerate(requests)]


def _product(numbers):
    total = 1
    for number in numbers:
        total = total * number
    return total


def count_choices(requests):
    """The number of choices."""
    return _product(_open_counts(requests))


def choice_at(requests, number):
    """The choice with a number among all choices, in ascending order."""
    each = count_choices(requests)
    if not 0 <= number < each:
        raise InvalidSize("number")
    there = {}
    taken = []
    for request, many in zip(requests, _open_counts(requests)):
        each = each // many
        box = sorted(_open_boxes(there, request))[number // each]
        number = number % each
        _take(there, request, box)
        taken.append((request[0], box))
    return tuple(taken)


def choice_number(requests, choice):
    """The number of a choice among all choices, in ascending order."""
    if not is_choice(requests, choice):
        raise Refused("choice")
    there = {}
    number = 0
    for request, event, many in zip(requests, choice, _open_counts(requests)):
        number = number * many + sorted(_open_boxes(there, request)).index(event[1])
        _take(there, request, event[1])
    return number


def _there_behind(requests, taken):
    """For each kind its boxes that are there behind a choice of the first requests, in the order of their coming."""
    there = {}
    for request, event in zip(requests, taken):
        _take(there, request, event[1])
    return there


def _taken_on(requests, taken, at):
    """A choice that begins so, and then takes each time the first (0) or last (-1) of those that came."""
    there = _there_behind(requests, taken)
    events = list(taken)
    for request in requests[len(taken):]:
        box = _open_boxes(there, request)[at]
        _take(there, request, box)
        events.append((request[0], box))
    return tuple(events)


def last_come(requests):
    """The choice in which each time the box of the kind goes that came last."""
    return _taken_on(requests, (), -1)


def first_come(requests):
    """The choice in which each time the box of the kind goes that came first."""
    return _taken_on(requests, (), 0)


def _leasts(requests, stretch):
    """The pairs of a kind that comes and its least number there in a stretch."""
    return tuple([(kind, least_there(requests, kind, stretch)) for kind in _all_kinds(requests)])


def kinds_court(yard, requests):
    """A choice with its table, or the first stretch through which too few of all kinds are there."""
    need_requests(yard, requests)
    choice = last_come(requests)
    # Through each stretch stay as many as the least numbers tell: with this choice it has too few where all have.
    paper = court(yard, choice)
    if isinstance(paper, Short):
        return Lacking(paper.cover, paper.stretch, _leasts(requests, paper.stretch))
    return Given(choice, paper.table)


def _is_lacking(yard, requests, value):
    """Whether a `Lacking`, of any values, is right."""
    if not is_number(value.cover):
        return False
    # The stretches are the same with each choice.
    for stretch in stretches(yard, last_come(requests), value.cover):
        if is_same(value.stretch, stretch):
            leasts = _leasts(requests, stretch)
            return is_same(value.leasts, leasts) and sum([many for _, many in leasts]) < owed(yard, value.cover)
    return False


def check_kinds(yard, requests, value):
    """Whether any value is some right `Given`, or some right `Lacking`."""
    need_requests(yard, requests)
    if isinstance(value, Lacking):
        return _is_lacking(yard, requests, value)
    if not isinstance(value, Given) or not is_choice(requests, value.choice):
        return False
    return check_court(yard, value.choice, Dealt(value.table))


def bad_choice(yard, requests):
    """Some choice that cannot be carried out, or None."""
    need_requests(yard, requests)
    choice = first_come(requests)
    return None if can_be_done(yard, choice) else choice


def may_take(yard, requests, taken):
    """The lot of the boxes that can go next, behind a choice of the first requests."""
    need_requests(yard, requests)
    if not isinstance(taken, tuple) or len(taken) >= len(requests) or requests[len(taken)][0] != GOING:
        raise Refused("choice")
    if not is_choice(requests[:len(taken)], taken):
        raise Refused("choice")
    found = []
    for box in reversed(_open_boxes(_there_behind(requests, taken), requests[len(taken)])):
        # To take the last one that came is best from then on, and who came before one that cannot go cannot, too.
        if not can_be_done(yard, _taken_on(requests, taken + ((GOING, box),), -1)):
            break
        found.append(box)
    return tuple(sorted(found))


def count_possible(yard, requests):
    """How many choices can be carried out."""
    need_requests(yard, requests)
    many = count_choices(requests)
    if many > MOST_CHOICES:
        raise InvalidSize("requests")
    return len([number for number in range(many) if can_be_done(yard, choice_at(requests, number))])
