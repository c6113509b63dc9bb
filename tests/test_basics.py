"""Points 1 to 3 and the interface: names and files, arguments, what is returned, and what does not change."""

import copy
import importlib
import inspect
import unittest

from staysdeep import errors
from staysdeep.yards import Yard
from tests.helpers import TALLEST, Checks, names

# The parameters of each function, as the points name them.
INTERFACE = {
    "yards": {
        "Yard": "heights", "places": "yard", "others": "yard stack", "cover_of": "yard stack level",
        "layer": "yard cover", "deep_row": "yard boxes", "deep_count": "yard boxes", "deep_places": "yard boxes",
    },
    "standings": {
        "need_standing": "yard value", "free_places": "yard standing", "boxes_of": "standing", "tops": "standing",
        "place_of": "standing box", "boxes_above": "standing box", "deep_boxes": "yard standing",
        "fillings": "yard boxes", "count_standings": "yard boxes", "standing_at": "yard lot number",
        "standing_number": "yard standing",
    },
    "texts": {
        "yard_text": "yard", "read_yard": "text", "standing_text": "standing", "read_standing": "text",
        "walk_text": "walk", "read_walk": "text",
    },
    "moves": {
        "walk_standings": "yard standing walk", "walked": "yard standing walk", "moved": "yard standing move",
        "lifted": "yard standing walk", "moves_from": "yard standing", "walk_back": "walk", "bare_walk": "walk",
    },
    "classes": {
        "deep_part": "yard standing", "same_class": "yard one other", "parting_place": "yard one other",
        "count_classes": "yard boxes", "rest_yard": "yard boxes", "class_size": "yard boxes",
        "nth_class": "yard lot number", "class_number": "yard standing", "nth_in_class": "yard standing number",
        "number_in_class": "yard standing",
    },
    "walks": {
        "walk_between": "yard one other", "shortest_walk": "yard one other", "farthest": "yard boxes",
    },
    "digs": {
        "can_dig": "yard standing box", "can_shift": "yard standing box", "dig_walk": "yard standing box",
        "shift_walk": "yard standing box", "lying_places": "yard standing box", "wish_walk": "yard standing box stack",
        "wishes_walk": "yard standing wishes",
    },
    "timetables": {
        "need_timetable": "yard value", "timetable_boxes": "timetable", "state_boxes": "timetable state",
        "free_counts": "yard timetable", "presence": "timetable box", "presences": "timetable",
        "timetable_text": "timetable", "read_timetable": "text",
    },
    "stretches": {
        "owed": "yard cover", "stretches": "yard timetable cover", "stretch_at": "yard timetable cover state",
        "stayers": "yard timetable stretch", "balances": "yard timetable",
    },
}
ERRORS = {
    "YardError": "", "InvalidYard": "at", "InvalidStanding": "at", "InvalidMove": "at", "InvalidTimetable": "at",
    "InvalidPlan": "at", "InvalidText": "at", "InvalidOrder": "at", "InvalidSize": "word", "InvalidCommand": "",
    "Refused": "word", "NoName": "name",
}
STANDING = (("a", "b"), ("c",), ())
TIMETABLE = (("in", "b"), ("in", "a"), ("in", "c"), ("out", "b"), ("in", "d"))
# Arguments of one function that are not those of `samples`.
SPECIAL = {
    "read_yard": {"text": "2 1 1"}, "read_standing": {"text": "a b\nc\n"}, "read_walk": {"text": "0 2\n1 0"},
    "read_timetable": {"text": "in a\nin b\nout a"}, "need_timetable": {"value": TIMETABLE},
    "nth_class": {"number": 2}, "nth_in_class": {"number": 3},
}


def samples(heights):
    """Good arguments by the names of the parameters."""
    return {
        "heights": heights, "yard": Yard(heights), "stack": 1, "level": 0, "cover": 1, "boxes": 3,
        "value": STANDING, "standing": STANDING, "box": "a", "lot": ("a", "b", "c"), "number": 17,
        "walk": ((0, 2), (1, 0), (2, 1)), "move": (0, 2), "one": STANDING, "other": (("a", "c"), (), ("b",)),
        "wishes": (("c", 0), ("b", 2)), "timetable": TIMETABLE, "state": 3, "stretch": (1, 3),
    }


def calls():
    """(function, its arguments in order, as a dict) for all functions of these modules."""
    told = []
    for module, functions in INTERFACE.items():
        for name, words in functions.items():
            call = getattr(importlib.import_module("staysdeep." + module), name)
            good = {**samples((2, 1, 1)), **SPECIAL.get(name, {})}
            told.append((call, {word: good[word] for word in words.split()}))
    return told


def shown(value):
    """A value as plain text, with all kinds in it."""
    return f"Yard({value.heights!r})" if isinstance(value, Yard) else repr(value)


def shown_all(arguments):
    return {word: shown(value) for word, value in arguments.items()}


class TestInterface(unittest.TestCase):

    def test_names_files_and_parameters(self):
        for module, functions in INTERFACE.items():
            for name, words in functions.items():
                thing = getattr(importlib.import_module("staysdeep." + module), name)
                self.assertEqual(thing.__module__, "staysdeep." + module)
                self.assertEqual(" ".join(inspect.signature(thing).parameters), words, name)

    def test_errors_and_their_parameters(self):
        for name, word in ERRORS.items():
            error = getattr(errors, name)
            self.assertEqual(error.__module__, "staysdeep.errors")
            if word:
                self.assertEqual(" ".join(inspect.signature(error).parameters), word, name)
                self.assertIn("__init__", vars(error))

    def test_yard_has_its_own_equality(self):
        self.assertIn("__eq__", vars(Yard))
        self.assertIn("__init__", vars(Yard))


class TestCalls(Checks):

    def test_by_position_and_by_name(self):
        for call, arguments in calls():
            want = shown(call(*arguments.values()))
            self.assertEqual(shown(call(**arguments)), want)
            turned = {word: arguments[word] for word in reversed(arguments)}
            self.assertEqual(shown(call(**turned)), want)
            first, *rest = arguments
            self.assertEqual(shown(call(arguments[first], **{word: arguments[word] for word in rest})), want)

    def test_arguments_are_not_changed(self):
        for call, arguments in calls():
            before = shown_all(arguments)
            call(**arguments)
            self.assertEqual(shown_all(arguments), before)

    def test_heights_are_not_changed(self):
        for heights in ([2, 1, 1], [0, 1, 1], [1, 1], [[1], (2,), None]):
            before = copy.deepcopy(heights)
            try:
                Yard(heights)
            except errors.InvalidYard:
                pass
            self.assert_same(heights, before)

    def test_the_same_again(self):
        first = [shown(call(**arguments)) for call, arguments in calls()]
        again = [shown(call(**arguments)) for call, arguments in reversed(calls())]
        self.assertEqual(first, again[::-1])

    def test_lists_and_tuples_do_alike(self):
        self.assertEqual(Yard([3, 2, 1]), Yard((3, 2, 1)))
        for heights in ((0, 1, 1), (1, 1), (1, 1, True), (1,) * 13, ()):
            told = []
            for kind in (list, tuple):
                with self.assertRaises(errors.InvalidYard) as caught:
                    Yard(kind(heights))
                told.append(caught.exception.at)
            self.assertEqual(told[0], told[1])
        for call, arguments in calls():
            if "yard" in arguments:
                listed = {**arguments, "yard": Yard([2, 1, 1])}
                self.assertEqual(shown(call(**listed)), shown(call(**arguments)))
        for call, arguments in calls():
            for word in ("lot", "stretch", "wishes"):
                if word in arguments:
                    listed = {**arguments, word: list(arguments[word])}
                    self.assertEqual(shown(call(**listed)), shown(call(**arguments)))


class TestKinds(unittest.TestCase):

    def check_plain(self, value):
        """Integers, bools, strings and None, in tuples."""
        self.assertIn(type(value), (int, bool, str, tuple, type(None)))
        if type(value) is tuple:
            for thing in value:
                self.check_plain(thing)

    def test_what_is_returned(self):
        for call, arguments in calls():
            found = call(**arguments)
            if call.__name__ in ("Yard", "read_yard", "rest_yard"):
                self.assertIs(type(found), Yard)
                self.check_plain(found.heights)
            elif call.__name__ in ("same_class", "can_dig", "can_shift"):
                self.assertIs(type(found), bool)
            else:
                self.check_plain(found)
                self.assertNotIsInstance(found, bool)

    def test_lots_are_ascending_without_duplicates(self):
        lots = ("layer", "deep_places", "boxes_of", "deep_boxes", "lifted", "moves_from", "lying_places",
                "timetable_boxes", "state_boxes", "presences", "stretches", "stayers", "balances")
        seen = 0
        for call, arguments in calls():
            if call.__name__ in lots:
                found = call(**arguments)
                self.assertEqual(found, tuple(sorted(set(found))))
                seen += 1
        self.assertEqual(seen, len(lots))


class TestLimits(Checks):

    def test_the_tallest_yard_in_reasonable_time(self):
        boxes = names(144)
        full = tuple([boxes[at:at + 12] for at in range(0, 144, 12)])
        comings = [("in", box) for box in boxes]
        timetable = tuple(comings + [("out", box) for box in boxes[::-1][:56]])
        good = {
            **samples(TALLEST), "value": full, "standing": full, "lot": boxes, "box": boxes[-1], "boxes": 144,
            "number": 10 ** 199, "walk": (), "one": full, "other": full, "wishes": ((boxes[11], 0), (boxes[143], 11)),
            "timetable": timetable, "state": 200, "stretch": (0, 200),
        }
        special = {"need_timetable": {"value": timetable}, "nth_in_class": {"number": 0}, "wish_walk": {"stack": 11}}
        with self.within(10):
            for call, arguments in calls():
                if "text" not in arguments and "move" not in arguments:
                    told = {**good, **special.get(call.__name__, {})}
                    call(**{word: told[word] for word in arguments})


if __name__ == "__main__":
    unittest.main()
