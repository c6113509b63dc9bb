"""Points 33 to 35: requests by kind, choices and their numbers, and which of them can be carried out."""

import random
import unittest
from itertools import product

from staysdeep.court import Dealt, court
from staysdeep.errors import InvalidSize, InvalidTimetable, Refused
from staysdeep.kinds import (
    Given, Lacking, bad_choice, check_kinds, choice_at, choice_number, count_choices, count_possible, first_come,
    is_choice, kind_counts, kinds_court, last_come, least_there, may_take, need_requests,
)
from staysdeep.yards import Yard, places
from tests.helpers import (
    TALLEST, Checks, any_values, is_right_table, names, plain_places, plain_states, plain_stayers, plain_stretches,
    plain_stuck, strange_papers,
)

COMINGS = tuple([("in", box, "x") for box in "abcdef"])
EXAMPLE = COMINGS[:4] + (("out", "x"), COMINGS[4], ("out", "x"), COMINGS[5], ("out", "x"))
# What are no requests of the yard 1 1 1, with what is told of it.
WRONG_REQUESTS = (
    (None, -1), (True, -1), ("in a x", -1), ([], -1), ([("in", "a", "x")], -1), (("in", "a", "x"), 0), (((),), 0),
    ((["in", "a", "x"],), 0), ((("in", "a"),), 0), ((("in", "a", "x", "y"),), 0), ((("out", "x"),), 0), ((("in",),), 0),
    ((("in", "a", "x"), ("out",)), 1), ((("in", "a", "x"), ("out", "a", "x")), 1), ((("in", "a", "x"), ("out", "a")), 1),
    ((("in", "a", "x"), ("in", "a", "y")), 1), ((("in", "a", "x"), ("out", "x"), ("out", "x")), 2), ((None,), 0),
    ((("in", "a", "x"), ("out", "x"), ("in", "a", "x")), 2), ((("in", "a", "X"),), 0), ((("in", "", "x"),), 0),
    ((("in", "a", None),), 0), ((("in", ["a"], "x"),), 0), ((("in", "a", ["x"]),), 0), (((["in"], "a", "x"),), 0),
    ((("in", "a", "x"), ("in", "b", "y"), ("in", "c", "x"), ("in", "d", "x")), 3), (((True, "a", "x"),), 0),
    ((("in", "a", "x"), ("in", "b", "y"), ("out", "x"), ("out", "x")), 3), ((("go", "a", "x"),), 0), ((("go", "x"),), 0),
    ((("in", "a", "abcdefghi"),), 0), ((("in", "a", True),), 0), ((("in", "a", "x"), ("out", True)), 1),
    ((("in", "a", "x"), ("out", ["x"])), 1), ((("in", "a", "x"), None, ("in", "a", "x")), 1),
)


def drawn_requests(draw, room, length, low, kinds="xyz"):
    """Requests that fill a yard up to `low` boxes and then keep at least so many; boxes come by no order of names."""
    left, there, requests, full = draw.sample(names(length), length), [], [], False
    while len(requests) < length:
        full = full or len(there) >= low
        if there and (len(there) == room or (full and len(there) > low and draw.random() < 0.5)):
            requests.append(("out", there.pop(draw.randrange(len(there)))))
        else:
            there.append(draw.choice(kinds))
            requests.append(("in", left.pop(), there[-1]))
    return tuple(requests)


def all_choices(requests):
    """All choices, ascending, from the definition."""
    told = [((), ())]
    for request in requests:
        further = []
        for events, there in told:
            if request[0] == "in":
                further.append((events + (("in", request[1]),), there + ((request[1], request[2]),)))
            else:
                for pair in there:
                    if pair[1] == request[1]:
                        left = tuple([other for other in there if other != pair])
                        further.append((events + (("out", pair[0]),), left))
        told = further
    return sorted(events for events, _ in told)


def plain_kinds(requests):
    return {request[1]: request[2] for request in requests if request[0] == "in"}


def plain_counts(requests, kind):
    kinds, choice = plain_kinds(requests), all_first(requests)
    return [len([box for box in there if kinds[box] == kind]) for there in plain_states(choice)]


def all_first(requests, last=False):
    """The choice in which each time the box goes that came first, or last."""
    there, events = [], []
    for request in requests:
        if request[0] == "in":
            there.append(request[1:])
            events.append(("in", request[1]))
        else:
            told = [pair for pair in there if pair[1] == request[1]]
            there.remove(told[-1 if last else 0])
            events.append(("out", told[-1 if last else 0][0]))
    return tuple(events)


def plain_lacks(heights, requests):
    """All (cover, stretch, leasts) that lack boxes, by cover, then by stretch."""
    told = []
    for cover in range(max(heights)):
        needs = sum(len(plain_places(heights, greater)) for greater in range(cover, max(heights)))
        for first, last in plain_stretches(sum(heights), all_first(requests), cover):
            leasts = [(kind, min(plain_counts(requests, kind)[first:last + 1]))
                      for kind in sorted(set(plain_kinds(requests).values()))]
            if sum(many for _, many in leasts) < needs:
                told.append((cover, (first, last), tuple(leasts)))
    return told


def some_requests(seed, many, most=200):
    """Pairs of heights and requests with not too many choices."""
    draw, told = random.Random(seed), []
    for heights in ((2, 1, 1), (1, 3, 1), (4, 1, 1), (2, 2, 1)):
        found = []
        while len(found) < many:
            low = sum(heights) - draw.randrange(1, max(heights) + 1)
            kinds = draw.choice(("x", "xy", "xyz", "uvwxyz", "jklmnopqrstuvwxyz", "jklmnopqrstuvwxyz"))
            requests = drawn_requests(draw, sum(heights), draw.randrange(6, 20), low, kinds)
            if len(all_choices(requests)) <= most:
                found.append((heights, requests))
        told += found
    return told


class TestRequests(Checks):

    def test_requests(self):
        for value in ((), COMINGS[:3], (("in", "a", "a"), ("in", "b", "a"), ("out", "a")), EXAMPLE[:3] + (("out", "x"),) * 3):
            self.assertIsNone(need_requests(Yard((1, 1, 1)), value))
        self.assertIsNone(need_requests(yard=Yard((2, 1, 1)), value=EXAMPLE))
        self.assertIsNone(need_requests(Yard((2, 1, 1)), COMINGS[:4]))

    def test_what_are_none(self):
        yard = Yard((1, 1, 1))
        calls = ((need_requests, ()), (kinds_court, ()), (check_kinds, (None,)), (bad_choice, ()), (may_take, (None,)),
                 (may_take, ((),)), (count_possible, ()))
        for call, rest in calls:
            for value, at in WRONG_REQUESTS:
                self.assert_told(InvalidTimetable, at, call, yard, value, *rest)
        self.assert_told(InvalidTimetable, 5, need_requests, Yard((2, 2, 1)), COMINGS)

    def test_any_value(self):
        yard = Yard((1, 1, 1))
        for value in any_values() + strange_papers():
            at = -1 if not isinstance(value, tuple) else 0
            if value != ():
                self.assert_told(InvalidTimetable, at, need_requests, yard, value)
            self.assert_told(InvalidTimetable, 1, need_requests, yard, COMINGS[:1] + (value,))
            for request in ((value, "b", "x"), ("in", value, "x"), ("in", "b", value), ("out", value), (value, "x")):
                if value not in ("in", "out", "abc", "a") or isinstance(value, (tuple, list)):
                    self.assert_told(InvalidTimetable, 1, need_requests, yard, COMINGS[:1] + (request,))

    def test_counts(self):
        for heights, requests in some_requests(100, 6):
            for kind in ("x", "y", "z", "w"):
                counts = plain_counts(requests, kind)
                self.assert_same(kind_counts(requests, kind), tuple(counts))
                for first in range(len(counts)):
                    for last in range(first, len(counts)):
                        self.assert_same(least_there(requests, kind, (first, last)), min(counts[first:last + 1]))
            kinds = plain_kinds(requests)
            for choice in all_choices(requests):
                states = plain_states(choice)
                self.assert_same(kind_counts(requests, "x"), tuple([
                    len([box for box in there if kinds[box] == "x"]) for there in states]))
        self.assert_same(kind_counts((), "x"), (0,))
        self.assert_same(kind_counts(requests=EXAMPLE, kind="x"), (0, 1, 2, 3, 4, 3, 4, 3, 4, 3))
        # The name of a box is no kind.
        self.assert_same(kind_counts((("in", "a", "x"), ("in", "x", "a")), "x"), (0, 1, 1))

    def test_least_numbers(self):
        self.assert_same(least_there(EXAMPLE, "x", (3, 9)), 3)
        self.assert_same(least_there(requests=EXAMPLE, kind="x", stretch=[4, 4]), 4)
        self.assert_same(least_there(EXAMPLE, "y", (4, 9)), 0)
        self.assert_same(least_there((), "y", (0, 0)), 0)
        for stretch in ((-1, 0), (0, 10), (2, 1), (10, 10), (-2, -1), (0, 10 ** 30)):
            self.assert_told(InvalidSize, "stretch", least_there, EXAMPLE, "x", stretch)
            self.assert_told(InvalidSize, "stretch", least_there, EXAMPLE, "y", stretch)
        self.assert_told(InvalidSize, "stretch", least_there, (), "x", (0, 1))


class TestChoices(Checks):

    def test_all_choices(self):
        for heights, requests in some_requests(101, 8, 80):
            choices = all_choices(requests)
            self.assert_same(count_choices(requests), len(choices))
            for number, choice in enumerate(choices):
                self.assertIs(is_choice(requests, choice), True)
                self.assert_same(choice_at(requests, number), choice)
                self.assert_same(choice_number(requests, choice), number)
            for number in (-1, len(choices), 10 ** 30, -len(choices)):
                self.assert_told(InvalidSize, "number", choice_at, requests, number)
            self.assert_same(last_come(requests), all_first(requests, True))
            self.assert_same(first_come(requests), all_first(requests))

    def test_all_tuples_of_events(self):
        requests = (("in", "a", "x"), ("in", "b", "y"), ("in", "c", "x"), ("out", "x"))
        choices = all_choices(requests)
        events = [(word, box) for word in ("in", "out") for box in "abcd"]
        for value in product(events, repeat=4):
            self.assertIs(is_choice(requests, value), value in choices)

    def test_what_are_no_choices(self):
        good = last_come(EXAMPLE)
        wrong = [good[:-1], good + (("out", "a"),), list(good), (), None, good[::-1], good[1:] + good[:1], "abc"]
        wrong += [good[:4] + (event,) + good[5:] for event in (
            ("out", "e"), ("out", "x"), ("in", "d"), ["out", "d"], ("out",), ("out", "d", "x"), None, ("out", None),
            ("out", ["d"]), (True, "d"), EXAMPLE[4])]
        wrong += [good[:6] + (("out", "d"),) + good[7:], (("in", "b"),) + good[1:], EXAMPLE, (("in", "a", "x"),) + good[1:]]
        self.assertIs(is_choice(EXAMPLE, good), True)
        for value in wrong + any_values() + strange_papers():
            self.assertIs(is_choice(EXAMPLE, value), False)
            self.assert_told(Refused, "choice", choice_number, EXAMPLE, value)
        for value in any_values():
            self.assertIs(is_choice((), value), value == () and isinstance(value, tuple))

    def test_the_example(self):
        self.assert_same(last_come(EXAMPLE)[-1], ("out", "f"))
        self.assert_same(first_come(requests=EXAMPLE)[-1], ("out", "c"))
        self.assert_same(count_choices(requests=EXAMPLE), 64)
        self.assert_same((count_choices(()), choice_at((), 0), choice_number((), ())), (1, (), 0))
        self.assert_same((last_come(()), first_come(())), ((), ()))
        self.assert_told(InvalidSize, "number", choice_at, (), 1)
        # In ascending order of the names, not of the coming.
        requests = (("in", "c", "x"), ("in", "a", "x"), ("in", "b", "x"), ("out", "x"), ("out", "x"))
        self.assert_same(choice_at(requests, 0)[3:], (("out", "a"), ("out", "b")))
        self.assert_same(choice_at(requests=requests, number=5)[3:], (("out", "c"), ("out", "b")))
        self.assert_same(last_come(requests=requests)[3:], (("out", "b"), ("out", "a")))
        self.assert_same(first_come(requests)[3:], (("out", "c"), ("out", "a")))

    def test_two_hundred_requests(self):
        draw = random.Random(102)
        with self.within(10):
            for room, low, kinds in ((144, 100, "xyz"), (5, 3, "x"), (30, 29, "xy")):
                requests = drawn_requests(draw, room, 200, low, kinds)
                total = count_choices(requests)
                self.assert_same(last_come(requests), all_first(requests, True))
                self.assert_same(first_come(requests), all_first(requests))
                for number in (0, total - 1, total // 3, total // 7 * 5):
                    choice = choice_at(requests, number)
                    self.assertIs(is_choice(requests, choice), True)
                    self.assert_same(choice_number(requests, choice), number)
                self.assert_told(InvalidSize, "number", choice_at, requests, total)


class TestPapers(Checks):

    def test_equality_and_attributes(self):
        given, lacking = Given(("a",), (1,)), Lacking(1, (2, 3), (("x", 1),))
        self.assertTrue(given == Given(choice=("a",), table=(1,)))
        self.assertTrue(lacking == Lacking(cover=1, stretch=(2, 3), leasts=(("x", 1),)))
        for other in (Given((1,), (1,)), Given(("a",), ()), lacking, Dealt((1,))):
            self.assertFalse(given == other)
            self.assertTrue(given != other)
        for other in (Lacking(0, (2, 3), (("x", 1),)), Lacking(1, (2, 4), (("x", 1),)), Lacking(1, (2, 3), ()), given):
            self.assertFalse(lacking == other)
        for value in any_values():
            self.assertFalse(given == value)
            self.assertFalse(lacking == value)
            self.assertIs(Given(value, 0).choice, value)
            self.assertIs(Given(0, value).table, value)
            self.assertIs(Lacking(value, 0, 0).cover, value)
            self.assertIs(Lacking(0, value, 0).stretch, value)
            self.assertIs(Lacking(0, 0, value).leasts, value)
        self.assertEqual(list(vars(lacking)), ["cover", "stretch", "leasts"])
        self.assertIn("__eq__", vars(Given))
        self.assertIn("__eq__", vars(Lacking))


class TestKindsCourt(Checks):

    def check_court_of(self, heights, requests):
        yard, found = Yard(heights), kinds_court(Yard(heights), requests)
        lacks = plain_lacks(heights, requests)
        if lacks:
            self.assertIs(type(found), Lacking)
            self.assert_same((found.cover, found.stretch, found.leasts), lacks[0])
        else:
            self.assertIs(type(found), Given)
            self.assert_same(found.choice, all_first(requests, True))
            self.assert_same(found.table, court(yard, found.choice).table)
        self.assertIs(check_kinds(yard, requests, found), True)
        return found

    def test_all_choices(self):
        told, bad = [], []
        for heights, requests in some_requests(103, 14):
            found = self.check_court_of(heights, requests)
            can = [choice for choice in all_choices(requests) if plain_stuck(heights, choice) is None]
            told.append(isinstance(found, Given))
            self.assertIs(told[-1], len(can) > 0)
            self.assert_same(count_possible(Yard(heights), requests), len(can))
            bad.append(bad_choice(Yard(heights), requests))
            self.assertIs(bad[-1] is None, len(can) == len(all_choices(requests)))
            if bad[-1] is not None:
                self.assertIn(bad[-1], all_choices(requests))
                self.assertNotIn(bad[-1], can)
        self.assertEqual(set(told), {True, False})
        self.assertIn(None, bad)
        self.assertGreater(len(bad) - bad.count(None), 3)

    def test_how_many_stay(self):
        for heights, requests in some_requests(104, 8, 60):
            kinds = plain_kinds(requests)
            for cover in range(max(heights)):
                for pair in plain_stretches(sum(heights), all_first(requests), cover):
                    for kind in "xyz":
                        told = [len([box for box in plain_stayers(choice, *pair) if kinds[box] == kind])
                                for choice in [all_first(requests, True), all_first(requests)] + all_choices(requests)]
                        self.assertEqual(told[0], least_there(requests, kind, pair))
                        self.assertEqual(told[0], max(told))
                        self.assertEqual(told[1], min(told))

    def test_no_requests(self):
        for heights in ((1, 1, 1), TALLEST):
            self.assertEqual(kinds_court(Yard(heights), ()), Given((), ()))
            self.assert_same(bad_choice(Yard(heights), ()), None)
            self.assert_same(count_possible(Yard(heights), ()), 1)
            self.assertIs(check_kinds(Yard(heights), (), Given((), ())), True)

    def test_kinds_of_which_none_is_left(self):
        # All kinds that ever come are told, also those of which none is there in the stretch.
        requests = (("in", "z", "w"), ("out", "w")) + tuple([("in", box, "x") for box in "abcd"])
        for box in "efgh":
            requests += (("out", "x"), ("in", box, "y"), ("out", "y"), ("in", box + "y", "x"))
        requests += (("out", "x"), ("in", "q", "v"))
        found = self.check_court_of((2, 1, 1), requests)
        self.assertIs(type(found), Given)
        requests = (("in", "z", "w"), ("out", "w")) + tuple([("in", box, "xyxy"["abcd".index(box)]) for box in "abcd"])
        requests += (("out", "x"), ("in", "e", "y"), ("out", "x"), ("in", "f", "y"), ("out", "y"), ("in", "g", "v"),
                     ("out", "y"), ("in", "h", "v"), ("out", "y"), ("in", "i", "v"), ("out", "y"), ("in", "j", "u"))
        found = self.check_court_of((2, 1, 1), requests)
        self.assertEqual(found, Lacking(1, (5, 18), (("u", 0), ("v", 0), ("w", 0), ("x", 0), ("y", 0))))

    def test_long_requests(self):
        draw, told = random.Random(105), []
        with self.within(30):
            for heights in ((12,) * 3, (4, 4, 4), (3, 2, 1), TALLEST, (1, 1, 1)):
                for kinds in ("x", "xyz", "abcdefgh"):
                    low = max(0, sum(heights) - draw.choice((1, 2, 3)))
                    requests = drawn_requests(draw, sum(heights), 200, low, kinds)
                    told.append(type(self.check_court_of(heights, requests)))
                    bad = bad_choice(Yard(heights), requests)
                    if bad is not None:
                        self.assertIs(is_choice(requests, bad), True)
        self.assertEqual(set(told), {Given, Lacking})


class TestCheckKinds(Checks):

    def test_any_choice_and_any_table(self):
        told = []
        for heights, requests in some_requests(106, 5, 40):
            yard = Yard(heights)
            tables = [court(yard, choice).table for choice in all_choices(requests)
                      if isinstance(court(yard, choice), Dealt)][:12]
            for choice in all_choices(requests):
                for table in tables:
                    right = is_right_table(heights, choice, table)
                    told.append(right)
                    self.assertIs(check_kinds(yard, requests, Given(choice, table)), right)
        self.assertEqual(set(told), {True, False})

    def test_givens_of_another_form(self):
        yard, requests = Yard((2, 1, 1)), EXAMPLE[:8]
        good = kinds_court(yard, requests)
        self.assertIs(check_kinds(yard, requests, good), True)
        for choice in (None, list(good.choice), good.choice[:-1], (), requests, EXAMPLE, ["abc"], good.choice + (("out", "f"),)):
            self.assertIs(check_kinds(yard, requests, Given(choice, good.table)), False)
        for table in (None, list(good.table), good.table[1:], good.table[::-1], Dealt(good.table), ()):
            self.assertIs(check_kinds(yard, requests, Given(good.choice, table)), False)
        for value in (Dealt(good.table), good.choice, good.table, (good.choice, good.table), None):
            self.assertIs(check_kinds(yard, requests, value), False)

    def test_all_lackings(self):
        seen = 0
        for heights, requests in some_requests(107, 30):
            lacks = plain_lacks(heights, requests)
            seen += len(lacks)
            kinds = sorted(set(plain_kinds(requests).values()))
            for cover in range(-1, max(heights) + 2):
                for first, last in plain_stretches(sum(heights), all_first(requests), cover) + ((0, 1),):
                    leasts = tuple([(kind, least_there(requests, kind, (first, last))) for kind in kinds])
                    right = (cover, (first, last), leasts) in lacks
                    self.assertIs(check_kinds(Yard(heights), requests, Lacking(cover, (first, last), leasts)), right)
                    self.assertIs(check_kinds(Yard(heights), requests, Lacking(cover, [first, last], leasts)), False)
                    more = leasts[:-1] + ((leasts[-1][0], leasts[-1][1] + 1),)
                    self.assertIs(check_kinds(Yard(heights), requests, Lacking(cover, (first, last), more)), False)
        self.assertGreater(seen, 10)

    def test_lackings_of_another_form(self):
        yard = Yard((4, 1, 1))
        requests = tuple([("in", box, "x") for box in "abc"]) + (("in", "d", "y"), ("in", "e", "y"), ("in", "f", "y"))
        requests += (("out", "x"), ("in", "g", "z"), ("out", "x"), ("in", "h", "z"), ("out", "y"), ("in", "i", "z"),
                     ("out", "y"), ("in", "j", "z"))
        good = kinds_court(yard, requests)
        self.assertEqual(good, Lacking(1, (5, 14), (("x", 1), ("y", 1), ("z", 0))))
        self.assertIs(check_kinds(yard, requests, good), True)
        for leasts in ((("x", True), ("y", 1), ("z", 0)), (("x", 1), ("y", 1), ("z", False)), (("x", 1), ("y", 1)), None, (),
                       [("x", 1), ("y", 1), ("z", 0)], (["x", 1], ("y", 1), ("z", 0)), (("y", 1), ("x", 1), ("z", 0)),
                       (("x", 1), ("y", 1), ("z", 0), ("w", 0)), (("x", 0), ("y", 1), ("z", 0))):
            self.assertIs(check_kinds(yard, requests, Lacking(1, (5, 14), leasts)), False)
        for cover in (True, "1", None, -1, 2, 10 ** 30, [1]):
            self.assertIs(check_kinds(yard, requests, Lacking(cover, (5, 14), good.leasts)), False)
        for stretch in ([5, 14], (5, 13), (4, 14), (5, 14, 14), None, (5,), (True, 14)):
            self.assertIs(check_kinds(yard, requests, Lacking(1, stretch, good.leasts)), False)

    def test_any_value(self):
        yard = Yard((2, 1, 1))
        for value in any_values() + strange_papers():
            self.assertIs(check_kinds(yard=yard, requests=EXAMPLE, value=value), False)
            for paper in (Given(value, ()), Given(last_come(EXAMPLE), value), Lacking(value, (3, 9), (("x", 3),)),
                          Lacking(1, value, (("x", 3),)), Lacking(1, (3, 9), value)):
                self.assertIs(check_kinds(yard, EXAMPLE, paper), False)


class TestMayTake(Checks):

    def test_all_beginnings(self):
        told = set()
        for heights, requests in some_requests(108, 8, 60):
            can = [choice for choice in all_choices(requests) if plain_stuck(heights, choice) is None]
            for at, request in enumerate(requests):
                if request[0] == "out":
                    for taken in sorted({choice[:at] for choice in all_choices(requests)}):
                        wanted = sorted({choice[at][1] for choice in can if choice[:at] == taken})
                        self.assert_same(may_take(Yard(heights), requests, taken), tuple(wanted))
                        told.add(len(wanted))
        self.assertGreaterEqual(told, {0, 1, 2, 3})

    def test_what_is_refused(self):
        yard = Yard((2, 1, 1))
        good = first_come(EXAMPLE)
        for taken in (good[:3], good[:5], good, good + (("out", "a"),), list(good[:4]), (), good[:3] + (("in", "e"),),
                      good[:5] + (("in", "e"), ("out", "a")), None, good[:6] + (("out", "c"), ("in", "g")), EXAMPLE[:4],
                      good[:4] + (("out", "b"), ("in", "f")), good[:6] + (["out", "b"], ("in", "f"))):
            self.assert_told(Refused, "choice", may_take, yard, EXAMPLE, taken)
        for value in any_values() + strange_papers():
            self.assert_told(Refused, "choice", may_take, yard, EXAMPLE, value)
            self.assert_told(Refused, "choice", may_take, yard, (), value)
            self.assert_told(Refused, "choice", may_take, yard, EXAMPLE, good[:3] + (value,))
        self.assert_same(may_take(yard, EXAMPLE, good[:8]), ("d", "e", "f"))
        self.assert_same(may_take(yard=yard, requests=EXAMPLE, taken=good[:4]), ("a", "b", "c", "d"))

    def test_two_hundred_requests(self):
        draw = random.Random(109)
        with self.within(20):
            for heights, kinds in (((12,) * 12, "x"), ((4, 4, 4), "xy"), ((12, 12, 12), "x")):
                low = sum(heights) - 3
                requests = drawn_requests(draw, sum(heights), 200, low, kinds)
                outs = [at for at, request in enumerate(requests) if request[0] == "out"]
                for at in (outs[0], outs[len(outs) // 2], outs[-1]):
                    found = may_take(Yard(heights), requests, last_come(requests)[:at])
                    self.assertEqual(found, tuple(sorted(found)))


class TestCountPossible(Checks):

    def test_too_many(self):
        yard = Yard((2, 2, 2))
        six = tuple([("in", box, "x") for box in "abcdef"])
        # 300 choices are not too many, 301 and more are.
        kinds = tuple([("in", box, kind) for box, kind in zip("abcdefghijkl", "xxxxxyyyyyzz")])
        wide = Yard((12, 12, 12))
        three = kinds[:10] + (("out", "x"), ("out", "x"), ("out", "y"))
        self.assertEqual(count_choices(three), 100)
        three = kinds + (("out", "x"), ("out", "y"), ("out", "y"), ("in", "m", "z"), ("out", "z"))
        self.assertEqual(count_choices(three), 300)
        self.assert_same(count_possible(wide, three), 300)
        self.assertEqual(count_choices(six + (("out", "x"),) * 4), 360)
        self.assert_told(InvalidSize, "requests", count_possible, yard, six + (("out", "x"),) * 4)
        eleven = tuple([("in", box + "q", "x") for box in "abcdefghijk"])
        seven = tuple([("in", box, "y") for box in "abcdefg"]) + (("out", "y"), ("out", "x"), ("in", "z", "x"))
        self.assertEqual(count_choices(eleven[:7] + seven + (("out", "x"),)), 343)
        self.assert_told(InvalidSize, "requests", count_possible, wide, eleven[:7] + seven + (("out", "x"),))
        odd = tuple([("in", box, "x" if at < 43 else "y") for at, box in enumerate(names(50))]) + (("out", "x"), ("out", "y"))
        self.assertEqual(count_choices(odd), 301)
        self.assert_told(InvalidSize, "requests", count_possible, Yard(TALLEST), odd)
        self.assert_same(count_possible(yard=yard, requests=six + (("out", "x"),) * 3), 120)

    def test_the_example(self):
        can = [choice for choice in all_choices(EXAMPLE) if plain_stuck((2, 1, 1), choice) is None]
        self.assert_same(count_possible(Yard((2, 1, 1)), EXAMPLE), len(can))

    def test_many_requests(self):
        turns = []
        for at, box in enumerate(names(98)):
            turns += [("in", box, "k"), ("out", "k")]
        requests = (("in", "a", "k"),) + tuple(turns[:16]) + tuple([(row[0], row[1], "j") if row[0] == "in" else ("out", "j")
                                                                 for row in turns[16:]])
        with self.within(20):
            self.assertEqual(count_choices(requests), 256)
            self.assert_same(count_possible(Yard((1, 1, 1)), requests), 256)
        self.assertEqual(places(Yard((1, 1, 1))), 3)


if __name__ == "__main__":
    unittest.main()
