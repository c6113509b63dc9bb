"""A desk: commands as texts for a yard in which time goes on."""

from staysdeep.atoms import is_name
from staysdeep.errors import InvalidCommand
from staysdeep.live import Live
from staysdeep.plans import MOVING, plan_text, read_plan
from staysdeep.texts import parts, read_yard, standing_text
from staysdeep.timetables import COMING, GOING
from staysdeep.yards import places

PARTING = " ; "
NOBODY = "nobody"
# The event of each command that is served.
SERVED = {"come": "in", "go": "out"}


def _in_one_line(text):
    """A text of lines as one line."""
    return PARTING.join(text.split("\n"))


def _standing_line(standing):
    return _in_one_line(standing_text(standing))


def _plan_line(steps):
    return _in_one_line(plan_text(steps))


def _done_or_not(done):
    return "done" if done else "nothing"


class Desk:
    """Takes commands; `live` is the yard that they are about, None at first."""

    def __init__(self):
        self.live = None

    def say(self, command):
        """Does what a command tells, and returns a text."""
        if not isinstance(command, str) or "\n" in command:
            raise InvalidCommand()
        word, blank, text = command.partition(" ")
        if word == "yard" and blank:
            self.live = Live(read_yard(text))
            return str(places(self.live.yard))
        if self.live is None:
            raise InvalidCommand()
        if not blank:
            return self._say_word(word)
        if word in (MOVING, COMING, GOING):
            return _standing_line(self.live.carry(read_plan(command)))
        if word in SERVED:
            return self._say_served(SERVED[word], text)
        if word == "verdict":
            return self._say_verdict(text)
        raise InvalidCommand()

    def _say_word(self, word):
        """The answer to a command of one word."""
        if word == "standing":
            return _standing_line(self.live.standing)
        if word == "plan":
            return _plan_line(self.live.plan)
        if word == "missed":
            return " ".join(self.live.missed()) or NOBODY
        if word == "undo":
            return _done_or_not(self.live.undo())
        if word == "redo":
            return _done_or_not(self.live.redo())
        raise InvalidCommand()

    def _say_served(self, word, text):
        """Serves the coming or the going of a box, with an order behind its name."""
        box, blank, names = text.partition(" ")
        if not is_name(box):
            raise InvalidCommand()
        order = tuple(names.split(" ")) if blank else ()
        return _plan_line(self.live.serve((word, box), order))

    def _say_verdict(self, text):
        """What is to be said of further events."""
        events = tuple([tuple(part.split(" ")) for part in parts(text, PARTING)])
        stuck = self.live.verdict(events)
        return "possible" if stuck is None else f"stuck {stuck}"
