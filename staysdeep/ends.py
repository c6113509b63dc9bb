"""Wished ends: events behind a standing that are to end in just a wished one."""

from staysdeep.court import Dealt
from staysdeep.errors import Refused
from staysdeep.mover import paper_steps
from staysdeep.plans import after_steps, move_steps
from staysdeep.standings import boxes_of, need_standing
from staysdeep.starts import onward_from
from staysdeep.walks import walk_between


def _onward_to(yard, standing, events, wished):
    """Events between two standings; raises an error for what is no such thing."""
    onward = onward_from(yard, standing, events)
    need_standing(yard, wished)
    if boxes_of(wished) != tuple([box for box, _, last in onward.spans if last == onward.last]):
        raise Refused("boxes")
    onward.ends = onward.lain(wished, onward.last)
    return onward


def end_court(yard, standing, events, wished):
    """The first `Torn`, else the first `Short`, else what is dealt."""
    return _onward_to(yard, standing, events, wished).paper()


def check_end(yard, standing, events, wished, value):
    """Whether any value is some right `Torn`, `Short` or `Dealt`."""
    return _onward_to(yard, standing, events, wished).takes(value)


def end_steps(yard, standing, events, wished, dealt):
    """Some steps that carry out the events from the one standing to the other, and keep the paper."""
    onward = _onward_to(yard, standing, events, wished)
    if not isinstance(dealt, Dealt) or not onward.takes(dealt):
        raise Refused("paper")
    steps = paper_steps(yard, standing, events, dealt.table)
    return steps + move_steps(walk_between(yard, after_steps(standing, steps), wished))
