"""The errors that this package raises."""


class YardError(Exception):
    """The base class of all errors here but `NoName`."""


class InvalidYard(YardError):
    """No yard: `at` is the first wrong thing, or -1 for what is no sequence of 3 to 12 things."""

    def __init__(self, at):
        self.at = at


class InvalidStanding(YardError):
    """No standing of the yard: `at` is the first wrong stack, or -1."""

    def __init__(self, at):
        self.at = at


class InvalidMove(YardError):
    """A move that cannot be done: `at` is its number in the walk, or -1 for what is no tuple."""

    def __init__(self, at):
        self.at = at


class InvalidTimetable(YardError):
    """No timetable: `at` is the first wrong place, or -1 for what is no tuple."""

    def __init__(self, at):
        self.at = at


class InvalidPlan(YardError):
    """No plan: `at` is the first step that cannot be done, or -1 for what is no tuple."""

    def __init__(self, at):
        self.at = at


class InvalidText(YardError):
    """A text that cannot be read: `at` is the first wrong part, or -1 for what is no string."""

    def __init__(self, at):
        self.at = at


class InvalidOrder(YardError):
    """No such order: `at` is the first wrong place, or -1 for what is no tuple."""

    def __init__(self, at):
        self.at = at


class InvalidSize(YardError):
    """A number out of its bounds: `word` tells which."""

    def __init__(self, word):
        self.word = word


class InvalidCommand(YardError):
    """A command that a desk does not know."""


class Refused(YardError):
    """What was asked cannot be: `word` tells why."""

    def __init__(self, word):
        self.word = word


class NoName(KeyError):
    """A box that is not there: `name`."""

    def __init__(self, name):
        self.name = name
