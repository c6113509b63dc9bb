"""Lines of boxes that must lie in unlike stacks unless some are moved, and plans of the fewest moves."""

from heapq import heapify, heappop, heappush

from staysdeep.errors import InvalidSize
from staysdeep.moves import after_move, moves_from
from staysdeep.plans import MOVING, after_step, empty_standing, plan_moves
from staysdeep.standings import count_standings
from staysdeep.timetables import COMING, GOING, free_counts, need_timetable, presences
from staysdeep.yards import places

MOST_STANDINGS = 120


def _longest_rise(rows):
    """Of rows (first, last, box), ascending, the boxes of a longest row of them with rising last states."""
    # For each row the number of rows of a longest rise that ends there, and the place of the row before it.
    told = []
    for at, row in enumerate(rows):
        before = [(told[back][0], back) for back in range(at) if rows[back][1] < row[1]]
        many, back = max(before, default=(0, -1))
        told.append((many + 1, back))
    at = max([(many, place) for place, (many, _) in enumerate(told)], default=(0, -1))[1]
    line = []
    while at >= 0:
        line.append(rows[at][2])
        at = told[at][1]
    return tuple(line[::-1])


def longest_line(timetable):
    """Some line of the most boxes."""
    spans = sorted([(first, last, box) for box, first, last in presences(timetable)])
    best = ()
    for state in range(len(timetable) + 1):
        # Whoever is there before a coming is there behind it, too.
        if state == len(timetable) or timetable[state][0] == GOING:
            line = _longest_rise([span for span in spans if span[0] <= state <= span[1]])
            best = line if len(line) > len(best) else best
    return best


def moves_below(yard, timetable):
    """So many moves each plan has at least that carries the timetable out."""
    need_timetable(yard, timetable)
    return max(0, len(longest_line(timetable)) - len(yard.heights))


def _with_moves(yard, found):
    """For each standing that moves lead to from these ones a plan of the fewest moves; those with fewer come first."""
    told = {}
    queue = [(plan_moves(plan), standing, plan) for standing, plan in found.items()]
    heapify(queue)
    while queue:
        many, standing, plan = heappop(queue)
        if standing in told:
            continue
        told[standing] = plan
        for stack, other in moves_from(yard, standing):
            behind = after_move(standing, stack, other)
            if behind not in told:
                heappush(queue, (many + 1, behind, plan + ((MOVING, stack, other),)))
    return told


def _steps_of(yard, standing, event):
    """The steps by which an event can be carried out from a standing without a move."""
    word, box = event
    if word == COMING:
        return [(word, box, stack) for stack, pile in enumerate(standing) if len(pile) < yard.heights[stack]]
    return [(word, box, stack) for stack, pile in enumerate(standing) if pile[-1:] == (box,)]


def _behind_event(yard, found, event):
    """For each standing in which an event can end a plan of the fewest moves up to it."""
    told = {}
    for standing, plan in found.items():
        for step in _steps_of(yard, standing, event):
            # What is found with more moves comes later, and does not take its place.
            told.setdefault(after_step(standing, step), plan + (step,))
    return told


def fewest_plan(yard, timetable):
    """Some plan of the fewest moves that carries the timetable out, or None."""
    for free in free_counts(yard, timetable):
        if count_standings(yard, places(yard) - free) > MOST_STANDINGS:
            raise InvalidSize("yard")
    found = {empty_standing(yard): ()}
    for event in timetable:
        found = _behind_event(yard, _with_moves(yard, found), event)
    return min(list(found.values()), key=plan_moves, default=None)
