"""Sheets: papers with their questions, and whether they hold."""

from staysdeep.atoms import is_name, is_same, is_whole
from staysdeep.court import Dealt, Short, can_be_done, check_court
from staysdeep.dues import Crowd, check_dues
from staysdeep.errors import InvalidTimetable, NoName, YardError
from staysdeep.kinds import Given, Lacking, check_kinds
from staysdeep.moves import walked
from staysdeep.plans import does_plan
from staysdeep.standings import boxes_of, deep_boxes, need_standing, place_of, tops
from staysdeep.starts import Torn, check_start
from staysdeep.timetables import need_timetable
from staysdeep.wagons import turned_by
from staysdeep.yards import Yard


def _is_row(value, many):
    """Whether any value is a tuple of so many things."""
    return isinstance(value, tuple) and len(value) == many


def _holds_walk(yard, question, value):
    one, other = question
    return walked(yard, one, value) == other


def _holds_parted(yard, question, value):
    one, other = question
    held, wanted = deep_boxes(yard, one), deep_boxes(yard, other)
    if boxes_of(one) != boxes_of(other):
        return False
    return any([is_same(value, pair[0]) for pair, wish in zip(held, wanted) if pair != wish])


def _holds_raised(yard, question, value):
    standing, box = question
    need_standing(yard, standing)
    place_of(standing, box)
    return box in tops(walked(yard, standing, value))


def _holds_turned(yard, question, value):
    one, other, turned = question
    return walked(yard, one, value) == other and is_same(turned, turned_by(yard, one, value))


def _holds_dealt(yard, question, value):
    return check_court(yard, question[0], Dealt(value))


def _holds_short(yard, question, value):
    return _is_row(value, 3) and check_court(yard, question[0], Short(*value))


def _holds_plan(yard, question, value):
    return does_plan(yard, question[0], value)


def _carries(yard, timetable):
    """Whether a yard carries out what is a timetable of another one."""
    try:
        need_timetable(yard, timetable)
    except InvalidTimetable:
        return False
    return can_be_done(yard, timetable)


def _holds_lesser(yard, question, value):
    other = question[0]
    return isinstance(other, Yard) and _carries(other, value) and not _carries(yard, value)


def _holds_onward(yard, question, value):
    standing, events = question
    return check_start(yard, standing, events, Dealt(value))


def _holds_torn(yard, question, value):
    standing, events = question
    return _is_row(value, 4) and check_start(yard, standing, events, Torn(*value))


def _holds_late(yard, question, value):
    standing, events = question
    return _is_row(value, 3) and check_start(yard, standing, events, Short(*value))


def _are_dues(value):
    """Whether any value is a tuple of pairs of a name and an integer."""
    if not isinstance(value, tuple):
        return False
    return all([_is_row(pair, 2) and is_name(pair[0]) and is_whole(pair[1]) for pair in value])


def _holds_order(yard, question, value):
    standing, dues = question
    return _are_dues(dues) and isinstance(value, tuple) and check_dues(yard, standing, dues, value)


def _holds_crowd(yard, question, value):
    standing, dues = question
    return _are_dues(dues) and _is_row(value, 3) and check_dues(yard, standing, dues, Crowd(*value))


def _holds_given(yard, question, value):
    return _is_row(value, 2) and check_kinds(yard, question[0], Given(*value))


def _holds_lacking(yard, question, value):
    return _is_row(value, 3) and check_kinds(yard, question[0], Lacking(*value))


# For each kind how many things its question has.
LENGTHS = {
    "walk": 2, "parted": 2, "raised": 2, "turned": 3, "dealt": 1, "short": 1, "plan": 1, "lesser": 1, "onward": 2,
    "torn": 2, "late": 2, "order": 2, "crowd": 2, "given": 1, "lacking": 1,
}
HOLDS = {
    "walk": _holds_walk, "parted": _holds_parted, "raised": _holds_raised, "turned": _holds_turned,
    "dealt": _holds_dealt, "short": _holds_short, "plan": _holds_plan, "lesser": _holds_lesser,
    "onward": _holds_onward, "torn": _holds_torn, "late": _holds_late, "order": _holds_order,
    "crowd": _holds_crowd, "given": _holds_given, "lacking": _holds_lacking,
}


def sheet_holds(yard, kind, question, value):
    """Whether a value is a paper of a kind for a question; all three may be any values."""
    if not isinstance(kind, str) or kind not in LENGTHS or not _is_row(question, LENGTHS[kind]):
        return False
    holds = HOLDS[kind]
    try:
        return holds(yard, question, value)
    except (YardError, NoName):
        # A wrong question, or what is no walk.
        return False
