"""Points 1 to 3 and the interface: names and files, arguments, what is returned, and what does not change."""

import copy
import importlib
import inspect
import unittest

from staysdeep import changes, errors
from staysdeep.counted import nth_timetable
from staysdeep.court import Dealt, Short, court
from staysdeep.desk import Desk
from staysdeep.dues import Crowd
from staysdeep.ends import end_court
from staysdeep.kinds import Given, Lacking, kinds_court, last_come
from staysdeep.live import Live, live_after
from staysdeep.mirrors import emptied
from staysdeep.rule import rule_plan
from staysdeep.starts import Torn, start_court
from staysdeep.yards import Yard
from tests.helpers import TALLEST, WRONG_STANDINGS, WRONG_TIMETABLES, Checks, names

PAPERS = (Dealt, Short, Crowd, Given, Lacking, Torn)
# The parameters of each function, as the points name them.
INTERFACE = {
    "yards": {
        "Yard": "heights", "places": "yard", "others": "yard stack", "cover_of": "yard stack level",
        "layer": "yard cover", "deep_row": "yard boxes", "deep_count": "yard boxes", "deep_places": "yard boxes",
    },
    "standings": {
        "need_standing": "yard value", "free_places": "yard standing", "boxes_of": "standing", "tops": "standing",
        "place_of": "standing box", "boxes_above": "standing box", "deep_boxes": "yard standing",
        "fillings": "yard boxes", "count_standings": "yard boxes", "standing_at": "yard lot number",
        "standing_number": "yard standing",
    },
    "texts": {
        "yard_text": "yard", "read_yard": "text", "standing_text": "standing", "read_standing": "text",
        "walk_text": "walk", "read_walk": "text",
    },
    "moves": {
        "walk_standings": "yard standing walk", "walked": "yard standing walk", "moved": "yard standing move",
        "lifted": "yard standing walk", "moves_from": "yard standing", "walk_back": "walk", "bare_walk": "walk",
    },
    "classes": {
        "deep_part": "yard standing", "same_class": "yard one other", "parting_place": "yard one other",
        "count_classes": "yard boxes", "rest_yard": "yard boxes", "class_size": "yard boxes",
        "nth_class": "yard lot number", "class_number": "yard standing", "nth_in_class": "yard standing number",
        "number_in_class": "yard standing",
    },
    "walks": {
        "walk_between": "yard one other", "shortest_walk": "yard one other", "farthest": "yard boxes",
    },
    "digs": {
        "can_dig": "yard standing box", "can_shift": "yard standing box", "dig_walk": "yard standing box",
        "shift_walk": "yard standing box", "lying_places": "yard standing box", "wish_walk": "yard standing box stack",
        "wishes_walk": "yard standing wishes",
    },
    "timetables": {
        "need_timetable": "yard value", "timetable_boxes": "timetable", "state_boxes": "timetable state",
        "free_counts": "yard timetable", "presence": "timetable box", "presences": "timetable",
        "timetable_text": "timetable", "read_timetable": "text",
    },
    "stretches": {
        "owed": "yard cover", "stretches": "yard timetable cover", "stretch_at": "yard timetable cover state",
        "stayers": "yard timetable stretch", "balances": "yard timetable",
    },
    "court": {
        "Dealt": "table", "Short": "cover stretch stayers", "shorts": "yard timetable", "court": "yard timetable",
        "check_court": "yard timetable value", "kept_at": "dealt state", "dealings_count": "yard timetable",
        "stuck_event": "yard timetable",
    },
    "mirrors": {"mirror": "timetable", "mirror_paper": "timetable paper", "emptied": "yard timetable"},
    "plans": {
        "need_plan": "yard value", "run_plan": "yard plan", "plan_events": "plan", "plan_states": "yard plan",
        "plan_moves": "plan", "does_plan": "yard timetable value", "plan_text": "plan", "read_plan": "text",
        "plan_paper": "yard plan", "plan_mirror": "plan", "bare_plan": "plan", "switched_plan": "yard one other state",
    },
    "mover": {"plan_for": "yard timetable dealt", "moves_above": "yard timetable"},
    "rule": {
        "leaving_order": "timetable state", "rule_steps": "yard standing event order", "rule_plan": "yard timetable",
    },
    "lines": {"longest_line": "timetable", "moves_below": "yard timetable", "fewest_plan": "yard timetable"},
    "goings": {
        "need_goings": "yard standing value", "wait_of": "yard standing box", "ready": "yard standing number",
        "stuck_going": "yard standing goings", "going_steps": "yard standing goings", "count_goings": "yard boxes many",
        "goings_at": "yard standing many number", "goings_number": "yard standing goings",
        "count_sources": "yard boxes many",
    },
    "dues": {"Crowd": "first end boxes", "due_order": "yard standing dues", "check_dues": "yard standing dues value"},
    "kinds": {
        "Given": "choice table", "Lacking": "cover stretch leasts", "need_requests": "yard value",
        "kind_counts": "requests kind", "least_there": "requests kind stretch", "is_choice": "requests value",
        "count_choices": "requests", "choice_at": "requests number", "choice_number": "requests choice",
        "last_come": "requests", "first_come": "requests", "kinds_court": "yard requests",
        "check_kinds": "yard requests value", "bad_choice": "yard requests", "may_take": "yard requests taken",
        "count_possible": "yard requests",
    },
    "joined": {
        "need_marks": "yard value", "marks": "yard timetable", "marks_come": "yard table",
        "goes_on": "yard table events", "marks_behind": "yard table events", "may_go": "yard table",
        "past_with": "yard table", "count_marks": "yard boxes", "as_good": "yard one other",
        "parting": "yard one other", "every_weave": "yard one other", "some_weave": "yard one other",
        "count_weaves": "yard one other",
    },
    "starts": {
        "Torn": "place stretch start end", "need_onward": "yard standing value", "start_court": "yard standing events",
        "check_start": "yard standing events value", "start_steps": "yard standing events dealt",
        "start_stuck": "yard standing events",
    },
    "ends": {
        "end_court": "yard standing events wished", "check_end": "yard standing events wished value",
        "end_steps": "yard standing events wished dealt",
    },
    "costs": {
        "count_starts": "yard lot events", "count_ends": "yard standing events",
        "least_changes": "yard standing events", "mended_start": "yard standing events",
        "change_bound": "yard standing events covers", "tight_covers": "yard standing events",
    },
    "compared": {
        "carries_all": "yard other", "parted_by": "yard other", "all_boxes": "yard", "least_trouble": "yard",
        "common_yard": "yard other", "either_yard": "yard other", "best_yard": "total stacks", "levelled": "yard more",
    },
    "helped": {
        "stay_row": "timetable", "weakest_yard": "timetable total stacks", "fewest_places": "yard events",
        "further_stack": "yard events",
    },
    "counted": {
        "count_yards": "timetable total stacks", "count_timetables": "yard boxes", "nth_timetable": "yard lot number",
        "timetable_number": "yard timetable",
    },
    "wagons": {
        "turned_by": "yard standing walk", "count_turnings": "yard boxes", "walk_parity": "yard one other",
        "can_turn": "yard one other turned", "fewest_turns": "yard one other turned",
        "turn_walk": "yard one other turned", "spin_walk": "yard standing box",
    },
    "changes": {
        "dropped": "timetable box", "exchanged": "timetable at", "need_days": "value", "day_order": "days",
        "hold_of": "yard table order cover", "safe_boxes": "yard table order cover",
        "safe_standing": "yard table order standing", "count_safe": "yard table order",
    },
    "live": {"Live": "yard", "live_after": "yard plan"},
    "checker": {"sheet_holds": "yard kind question value"},
    "desk": {"Desk": ""},
}
METHODS = {
    Live: {
        "carry": "steps", "serve": "event order", "verdict": "events", "missed": "", "safe": "order", "undo": "",
        "redo": "", "trying": "work", "__len__": "", "__init__": "yard",
    },
    Desk: {"say": "command", "__init__": ""},
}
ERRORS = {
    "YardError": "", "InvalidYard": "at", "InvalidStanding": "at", "InvalidMove": "at", "InvalidTimetable": "at",
    "InvalidPlan": "at", "InvalidText": "at", "InvalidOrder": "at", "InvalidSize": "word", "InvalidCommand": "",
    "Refused": "word", "NoName": "name",
}
WHETHER = ("same_class", "can_dig", "can_shift", "check_court", "does_plan", "check_dues", "is_choice", "check_kinds",
           "marks_come", "as_good", "carries_all", "check_start", "check_end", "can_turn", "safe_standing",
           "sheet_holds")
YARDS = ("Yard", "read_yard", "rest_yard", "common_yard", "either_yard", "best_yard", "levelled", "weakest_yard")
LIVING = {"Live": Live, "live_after": Live, "Desk": Desk}
STANDING = (("a", "b"), ("c",), ())
TIMETABLE = (("in", "b"), ("in", "a"), ("in", "c"), ("out", "b"), ("in", "d"))
ROWS = (((0, 0), (3, 3), "a"), ((0, 0), (5, 5), "a"))
PLAN = (("in", "b", 1), ("in", "a", 0), ("in", "c", 2), ("out", "b", 1), ("in", "d", 1), ("move", 1, 0))
WORN = (("in", "a", 0), ("move", 0, 1), ("out", "a", 1))
REQUESTS = (("in", "b", "y"), ("in", "a", "x"), ("in", "c", "x"), ("out", "x"), ("in", "d", "y"), ("out", "y"))
CHOICE = (("in", "b"), ("in", "a"), ("in", "c"), ("out", "a"), ("in", "d"), ("out", "b"))
FULL, OTHER = (("a", 2), ("b", 1), ("c", 1), ("d", 1)), (("a", 1), ("b", 2), ("c", 1), ("d", 1))
PAIR = {"one": TIMETABLE, "other": (("in", "x"), ("out", "x"))}
LAIN = (("a", "b"), ("c",), ("d",))
FLAT = {"other": Yard((1, 1, 1, 1))}
AFTER = Dealt((((0, 0), (0, 0), "a"), ((0, 0), (2, 2), "a")))
DAYS = (((), ("a", "b", "c")), (("a", "d"), ("d", "e")))
# Arguments of one function that are not those of `samples`.
SPECIAL = {
    "read_plan": {"text": "in a 0\nmove 0 1\nout a 1"}, "check_court": {"value": Dealt(ROWS)},
    "need_plan": {"value": PLAN}, "does_plan": {"value": PLAN}, "switched_plan": {"one": PLAN, "other": PLAN},
    "mirror": {"timetable": TIMETABLE[:1] + (("out", "b"),)}, "plan_mirror": {"plan": WORN},
    "mirror_paper": {"timetable": TIMETABLE[:1] + (("out", "b"),)}, "need_goings": {"value": ("c", "b")},
    "goings_at": {"number": 1}, "check_dues": {"value": ("c", "b", "a")}, "need_requests": {"value": REQUESTS},
    "is_choice": {"value": CHOICE}, "choice_at": {"number": 2}, "check_kinds": {"value": Lacking(1, (0, 0), ())},
    "need_marks": {"value": FULL}, "as_good": {"one": FULL, "other": OTHER}, "parting": {"one": FULL, "other": OTHER},
    "every_weave": PAIR, "some_weave": PAIR, "count_weaves": PAIR, "Crowd": {"boxes": ("a",)}, "Dealt": {"table": ROWS},
    "Given": {"table": ROWS},
    "read_yard": {"text": "2 1 1"}, "read_standing": {"text": "a b\nc\n"}, "read_walk": {"text": "0 2\n1 0"},
    "read_timetable": {"text": "in a\nin b\nout a"}, "need_timetable": {"value": TIMETABLE},
    "nth_class": {"number": 2}, "nth_in_class": {"number": 3},
    "need_onward": {"value": (("out", "b"), ("in", "e"))}, "check_start": {"value": AFTER}, "start_steps": {"dealt": AFTER},
    "check_end": {"value": AFTER}, "end_steps": {"dealt": AFTER}, "carries_all": FLAT, "parted_by": FLAT,
    "common_yard": FLAT, "either_yard": FLAT, "fewest_places": {"events": TIMETABLE}, "need_days": {"value": DAYS},
    "further_stack": {"events": TIMETABLE}, "safe_standing": {"standing": LAIN},
    "timetable_number": {"timetable": TIMETABLE + tuple([("out", box) for box in "dca"])},
    "spin_walk": {"standing": (("a",), (), ("b",))},
    "sheet_holds": {"kind": "walk", "value": ((0, 2), (1, 0))}, "Torn": {"end": None},
}


def samples(heights):
    """Good arguments by the names of the parameters."""
    return {
        "heights": heights, "yard": Yard(heights), "stack": 1, "level": 0, "cover": 1, "boxes": 3,
        "value": STANDING, "standing": STANDING, "box": "a", "lot": ("a", "b", "c"), "number": 17,
        "walk": ((0, 2), (1, 0), (2, 1)), "move": (0, 2), "one": STANDING, "other": (("a", "c"), (), ("b",)),
        "wishes": (("c", 0), ("b", 2)), "timetable": TIMETABLE, "state": 3, "stretch": (1, 3), "dealt": Dealt(ROWS),
        "stayers": ("a", "b"), "paper": Dealt(ROWS), "plan": PLAN, "event": ("in", "d"), "order": ("b", "a", "d", "c"),
        "goings": ("c", "b"), "many": 2, "dues": (("a", 3), ("c", 1)), "first": 1, "end": 2, "requests": REQUESTS,
        "kind": "x", "choice": CHOICE, "taken": CHOICE[:3], "leasts": (("x", 1), ("y", 0)), "table": FULL,
        "events": (("out", "b"), ("in", "e")), "wished": (("a", "e"), ("c",), ()), "covers": (1,), "total": 7,
        "stacks": 3, "more": 2, "turned": ("b", "c"), "days": DAYS, "at": 1, "place": (0, 0), "start": "a",
        "question": (STANDING, (("a", "c"), (), ("b",))),
    }


def calls():
    """(function, its arguments in order, as a dict) for all functions of these modules."""
    told = []
    for module, functions in INTERFACE.items():
        for name, words in functions.items():
            call = getattr(importlib.import_module("staysdeep." + module), name)
            good = {**samples((2, 1, 1)), **SPECIAL.get(name, {})}
            told.append((call, {word: good[word] for word in words.split()}))
    return told


def shown(value):
    """A value as plain text, with all kinds in it."""
    if isinstance(value, (Yard, Live, Desk) + PAPERS):
        return f"{value.__class__.__name__}({shown_all(vars(value))!r})"
    if isinstance(value, (list, tuple)):
        return value.__class__.__name__ + "(" + ", ".join([shown(thing) for thing in value]) + ")"
    return repr(value)


def shown_all(arguments):
    return {word: shown(value) for word, value in arguments.items()}


class TestInterface(unittest.TestCase):

    def test_names_files_and_parameters(self):
        for module, functions in INTERFACE.items():
            for name, words in functions.items():
                thing = getattr(importlib.import_module("staysdeep." + module), name)
                self.assertEqual(thing.__module__, "staysdeep." + module)
                self.assertEqual(" ".join(inspect.signature(thing).parameters), words, name)

    def test_errors_and_their_parameters(self):
        for name, word in ERRORS.items():
            error = getattr(errors, name)
            self.assertEqual(error.__module__, "staysdeep.errors")
            if word:
                self.assertEqual(" ".join(inspect.signature(error).parameters), word, name)
                self.assertIn("__init__", vars(error))

    def test_methods_and_their_parameters(self):
        for kind, methods in METHODS.items():
            for name, words in methods.items():
                # Each one stands in the class itself.
                self.assertIn(name, vars(kind))
                self.assertEqual(" ".join(list(inspect.signature(vars(kind)[name]).parameters)[1:]), words, name)
        self.assertEqual(sorted(vars(Live(Yard((1, 1, 1)))))[-3:], ["plan", "standing", "yard"])
        self.assertIs(Desk().live, None)
        for paper in PAPERS:
            self.assertIn("__eq__", vars(paper))

    def test_nothing_is_iterable_or_has_a_length_but_a_live_yard(self):
        things = [Yard((1, 1, 1)), Desk(), Torn(1, 2, 3, 4), Dealt(()), Short(0, (0, 0), ()), errors.InvalidYard(1)]
        for thing in things + [Live(Yard((1, 1, 1)))]:
            with self.assertRaises(TypeError):
                iter(thing)
        for thing in things:
            with self.assertRaises(TypeError):
                len(thing)
        self.assertEqual(len(live_after(Yard((2, 1, 1)), PLAN)), len(PLAN))

    def test_yard_has_its_own_equality(self):
        self.assertIn("__eq__", vars(Yard))
        self.assertIn("__init__", vars(Yard))


class TestCalls(Checks):

    def test_by_position_and_by_name(self):
        for call, arguments in calls():
            want = shown(call(*arguments.values()))
            self.assertEqual(shown(call(**arguments)), want)
            turned = {word: arguments[word] for word in reversed(arguments)}
            self.assertEqual(shown(call(**turned)), want)
            for many in range(len(arguments)):
                rest = list(arguments)[many:]
                by_position = list(arguments.values())[:many]
                self.assertEqual(shown(call(*by_position, **{word: arguments[word] for word in rest})), want)

    def test_arguments_are_not_changed(self):
        for call, arguments in calls():
            before = shown_all(arguments)
            call(**arguments)
            self.assertEqual(shown_all(arguments), before)

    def test_heights_are_not_changed(self):
        for heights in ([2, 1, 1], [0, 1, 1], [1, 1], [[1], (2,), None]):
            before = copy.deepcopy(heights)
            try:
                Yard(heights)
            except errors.InvalidYard:
                pass
            self.assert_same(heights, before)

    def test_the_same_again(self):
        first = [shown(call(**arguments)) for call, arguments in calls()]
        again = [shown(call(**arguments)) for call, arguments in reversed(calls())]
        self.assertEqual(first, again[::-1])

    def test_lists_and_tuples_do_alike(self):
        self.assertEqual(Yard([3, 2, 1]), Yard((3, 2, 1)))
        for heights in ((0, 1, 1), (1, 1), (1, 1, True), (1,) * 13, ()):
            told = []
            for kind in (list, tuple):
                with self.assertRaises(errors.InvalidYard) as caught:
                    Yard(kind(heights))
                told.append(caught.exception.at)
            self.assertEqual(told[0], told[1])
        for call, arguments in calls():
            if "yard" in arguments:
                listed = {**arguments, "yard": Yard([2, 1, 1])}
                self.assertEqual(shown(call(**listed)), shown(call(**arguments)))
        for call, arguments in calls():
            for word in ("lot", "stretch", "wishes"):
                if word in arguments and not inspect.isclass(call):
                    listed = {**arguments, word: list(arguments[word])}
                    self.assertEqual(shown(call(**listed)), shown(call(**arguments)))


class TestOrderOfErrors(Checks):
    """What is no standing, timetable, plan, requests or table is told before what later parameters cause."""

    def check_first(self, word, wrong, error, spared=()):
        seen = 0
        for call, arguments in calls():
            if "yard" not in arguments or word not in arguments or call.__name__ in spared or inspect.isclass(call):
                continue
            words = list(arguments)
            later = words[words.index(word) + 1:]
            for value, at in wrong:
                told = {**arguments, word: value, "yard": Yard((2, 1, 1) if word != "timetable" else (1, 1, 1))}
                self.assert_told(error, at, call, **told)
                for name in later:
                    # Things that are wrong in themselves, whatever the parameter.
                    for bad in (None, -1, 10 ** 30):
                        self.assert_told(error, at, call, **{**told, name: bad})
            seen += 1
        return seen

    def test_standings(self):
        self.assertGreaterEqual(self.check_first("standing", WRONG_STANDINGS, errors.InvalidStanding), 30)
        # It comes before the table and the order here, too.
        for value, at in WRONG_STANDINGS:
            self.assert_told(errors.InvalidStanding, at, changes.safe_standing, Yard((2, 1, 1)), None, None, value)

    def test_one_and_other(self):
        names_of = ("same_class", "parting_place", "walk_between", "shortest_walk", "walk_parity", "can_turn", "fewest_turns",
                    "turn_walk")
        for call, arguments in calls():
            if call.__name__ in names_of:
                for value, at in WRONG_STANDINGS:
                    for word in ("one", "other"):
                        told = {**arguments, word: value}
                        self.assert_told(errors.InvalidStanding, at, call, **told)
                        if "turned" in told:
                            self.assert_told(errors.InvalidStanding, at, call, **{**told, "turned": None})

    def test_timetables(self):
        self.assertGreaterEqual(self.check_first("timetable", WRONG_TIMETABLES, errors.InvalidTimetable), 14)

    def test_events(self):
        wrong = ((None, -1), ([], -1), ((None,), 0), ((("in", "b"),), 0), ((("out", "x"),), 0), ((("out", "b"), ("in", "b")), 1))
        spared = ("fewest_places", "further_stack")
        self.assertGreaterEqual(self.check_first("events", wrong, errors.InvalidTimetable, spared), 13)


class TestKinds(unittest.TestCase):

    def check_plain(self, value):
        """Integers, bools, strings and None, in tuples; or papers of such."""
        if type(value) in PAPERS:
            value = tuple(vars(value).values())
        self.assertIn(type(value), (int, bool, str, tuple, type(None)))
        if type(value) is tuple:
            for thing in value:
                self.check_plain(thing)

    def test_what_is_returned(self):
        for call, arguments in calls():
            found = call(**arguments)
            if call.__name__ in LIVING:
                self.assertIs(type(found), LIVING[call.__name__])
            elif call.__name__ in YARDS:
                self.assertIs(type(found), Yard)
                self.check_plain(found.heights)
            elif call.__name__ in WHETHER:
                self.assertIs(type(found), bool)
            else:
                self.check_plain(found)
                self.assertNotIsInstance(found, bool)

    def test_lots_are_ascending_without_duplicates(self):
        lots = ("layer", "deep_places", "boxes_of", "deep_boxes", "lifted", "moves_from", "lying_places",
                "timetable_boxes", "state_boxes", "presences", "stretches", "stayers", "balances", "kept_at", "ready",
                "may_take", "marks", "marks_behind", "may_go", "turned_by", "safe_boxes", "tight_covers")
        seen = 0
        for call, arguments in calls():
            if call.__name__ in lots:
                found = call(**arguments)
                self.assertEqual(found, tuple(sorted(set(found))))
                seen += 1
        self.assertEqual(seen, len(lots))


class TestLimits(Checks):

    def great(self):
        """Great arguments by the names of the parameters, for the tallest yard."""
        boxes, yard = names(144), Yard(TALLEST)
        full = tuple([boxes[at:at + 12] for at in range(0, 144, 12)])
        timetable = tuple([("in", box) for box in boxes] + [("out", box) for box in boxes[::-1][:56]])
        kinds = [("in", box, "xyz"[at % 3]) for at, box in enumerate(boxes)]
        comers = [boxes[0] + letter + box for box in boxes[:33] for letter in "xyz"]
        return {
            **samples(TALLEST), "value": full, "standing": full, "lot": boxes, "box": boxes[-1], "boxes": 144,
            "number": 10 ** 199, "walk": (), "one": full, "other": full, "wishes": ((boxes[11], 0), (boxes[143], 11)),
            "timetable": timetable, "state": 200, "stretch": (0, 200), "dealt": court(yard, timetable),
            "plan": rule_plan(yard, timetable), "event": ("out", boxes[-1]), "order": boxes, "many": 144,
            "goings": boxes[11::12] + boxes[10::12], "dues": tuple([(box, 1000) for box in boxes]),
            "requests": tuple(kinds + [("out", "xyz"[at % 3]) for at in range(56)]), "taken": timetable[:144],
            "table": tuple([(box, min(12, 144 - at)) for at, box in enumerate(boxes)]),
            "events": (("out", boxes[-1]),) + tuple([(word, box) for box in comers for word in ("in", "out")]),
            "wished": full[:11] + (full[11][:11],), "covers": tuple(range(12)), "total": 144, "stacks": 12, "more": 0,
            "turned": (), "days": (((), boxes), (boxes[::2], ()), (boxes[1::2], ())), "at": 198,
        }

    def great_for(self, good):
        """Other great arguments, by the names of functions."""
        boxes, yard, timetable = good["lot"], good["yard"], good["timetable"]
        plan, requests, table = good["plan"], good["requests"], good["table"]
        weave = {"one": (("in", "a"), ("out", "a")), "other": tuple([("in", box) for box in boxes[:8]])}
        tables, whole = {"one": table, "other": table}, emptied(yard, timetable[:100])
        return {
            "need_timetable": {"value": timetable}, "nth_in_class": {"number": 0}, "wish_walk": {"stack": 11},
            "mirror": {"timetable": whole}, "check_court": {"value": court(yard, timetable)},
            "mirror_paper": {"timetable": whole, "paper": court(yard, timetable[:100])},
            "need_plan": {"value": plan}, "does_plan": {"value": plan}, "plan_mirror": {"plan": rule_plan(yard, whole)},
            "switched_plan": {"one": plan[:40], "other": plan[:40], "state": 40}, "leaving_order": {"state": 144},
            "fewest_plan": {"timetable": (("in", "a"), ("out", "a"))}, "need_goings": {"value": boxes},
            "check_dues": {"value": boxes}, "need_requests": {"value": requests}, "choice_at": {"number": 10 ** 60},
            "is_choice": {"value": last_come(requests)}, "choice_number": {"choice": last_come(requests)},
            "check_kinds": {"value": kinds_court(yard, requests)}, "count_possible": {"requests": requests[:145]},
            "need_marks": {"value": table}, "as_good": tables, "parting": tables, "goings_at": {"many": 144},
            "every_weave": weave, "some_weave": weave, "count_weaves": weave, **self.later_great(good),
        }

    def later_great(self, good):
        """Other great arguments of events behind a standing, of yards compared, and of what is kept while time goes on."""
        boxes, yard, events, timetable = good["lot"], good["yard"], good["events"], good["timetable"]
        paper = {"dealt": start_court(yard, good["standing"], events)}
        few = {"standing": tuple([boxes[at::12][:4] for at in range(12)]), "events": tuple([("out", box) for box in boxes[36:48]])}
        few["wished"] = tuple([boxes[at::12][:3] for at in range(12)])
        other, eight = {"other": Yard((12,) * 11 + (11,))}, boxes[:8]
        turn = {"order": boxes[::-1], "cover": 0}
        return {
            "need_onward": {"value": events}, "check_start": {"value": paper["dealt"]}, "start_steps": paper,
            "check_end": {"value": end_court(yard, good["standing"], events, good["wished"])},
            "end_steps": {**few, "dealt": end_court(yard, few["standing"], few["events"], few["wished"])},
            "carries_all": other, "parted_by": other, "common_yard": other, "either_yard": {"other": yard},
            "fewest_places": {"events": timetable}, "further_stack": {"events": timetable[:40]},
            "count_timetables": {"boxes": 8}, "nth_timetable": {"lot": eight, "number": 10 ** 9},
            "timetable_number": {"timetable": nth_timetable(yard, eight, 10 ** 9)}, "need_days": {"value": good["days"]},
            "hold_of": turn, "safe_boxes": turn, "safe_standing": turn, "count_safe": turn,
            "sheet_holds": {"kind": "plan", "question": (timetable,), "value": good["plan"]},
        }

    def test_the_tallest_yard_in_reasonable_time(self):
        with self.within(30):
            good = self.great()
            special = self.great_for(good)
            for call, arguments in calls():
                if "text" not in arguments and "move" not in arguments:
                    told = {**good, **special.get(call.__name__, {})}
                    call(**{word: told[word] for word in arguments})


if __name__ == "__main__":
    unittest.main()
