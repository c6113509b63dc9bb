"""A yard while time goes on: steps are done, taken back and tried, and it tells what can still be done."""

from staysdeep.changes import safe_standing
from staysdeep.digs import can_dig
from staysdeep.errors import InvalidPlan, Refused
from staysdeep.joined import marks, may_go
from staysdeep.plans import after_step, empty_standing, mirrored_step, plan_events, steps_way
from staysdeep.rule import rule_steps
from staysdeep.standings import boxes_of
from staysdeep.starts import start_stuck
from staysdeep.timetables import COMING, need_events, timetable_boxes
from staysdeep.yards import places


class Live:
    """A yard in which time goes on; `standing` is how the boxes lie now, `plan` has all steps that were done."""

    def __init__(self, yard):
        self.yard = yard
        self.standing = empty_standing(yard)
        self.plan = ()
        # The steps that can be done again, the next one last.
        self._undone = ()

    def __len__(self):
        return len(self.plan)

    def _events(self):
        return plan_events(self.plan)

    def _came(self):
        return timetable_boxes(self._events())

    def carry(self, steps):
        """Does further steps, and returns the standing behind them."""
        if not isinstance(steps, tuple):
            raise InvalidPlan(-1)
        way = steps_way(self.yard, self.standing, self._came(), steps)
        if len(way) <= len(steps):
            raise InvalidPlan(len(way) - 1)
        if steps:
            self.standing = way[-1]
            self.plan = self.plan + steps
            self._undone = ()
        return self.standing

    def serve(self, event, order):
        """Does an event by the rule, and returns the steps."""
        if event[0] == COMING and event[1] in self._came():
            raise Refused("box")
        steps = rule_steps(self.yard, self.standing, event, order)
        self.carry(steps)
        return steps

    def undo(self):
        """Takes back the last step; whether there was one."""
        if not self.plan:
            return False
        step = self.plan[-1]
        self.standing = after_step(self.standing, mirrored_step(step))
        self.plan = self.plan[:-1]
        self._undone = self._undone + (step,)
        return True

    def redo(self):
        """Does again the step that was taken back last; whether there was one."""
        if not self._undone:
            return False
        step = self._undone[-1]
        self.standing = after_step(self.standing, step)
        self.plan = self.plan + (step,)
        self._undone = self._undone[:-1]
        return True

    def trying(self, work):
        """What `work(self)` returns; behind it all is as before."""
        standing, plan, undone = self.standing, self.plan, self._undone
        try:
            return work(self)
        finally:
            self.standing = standing
            self.plan = plan
            self._undone = undone

    def verdict(self, events):
        """The number of the first of these further events that nobody can do from here on, or None."""
        need_events(events, places(self.yard), boxes_of(self.standing), self._came())
        return start_stuck(self.yard, self.standing, events)

    def missed(self):
        """The lot of the boxes that cannot go next, but could if all had been laid otherwise."""
        told = may_go(self.yard, marks(self.yard, self._events()))
        return tuple([box for box in told if not can_dig(self.yard, self.standing, box)])

    def safe(self, order):
        """Whether all events can still be done in which the boxes go in this order, whatever comes."""
        return safe_standing(self.yard, marks(self.yard, self._events()), order, self.standing)


def live_after(yard, plan):
    """The yard in which a plan was done."""
    live = Live(yard)
    live.carry(plan)
    return live
