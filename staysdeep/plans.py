"""Plans: comings, goings and moves, step by step from the empty yard on."""

from staysdeep.atoms import is_name, is_whole
from staysdeep.court import Dealt
from staysdeep.errors import InvalidPlan, InvalidText, Refused
from staysdeep.moves import after_move, bare_walk
from staysdeep.stretches import all_stretches
from staysdeep.texts import need_text, number_words, parts
from staysdeep.timetables import COMING, GOING, need_state, need_timetable, state_boxes
from staysdeep.walks import walk_between
from staysdeep.yards import MOST_STACKS, layer

MOVING = "move"


def empty_standing(yard):
    """The standing without boxes."""
    return ((),) * len(yard.heights)


def move_steps(walk):
    """The moves of a walk as steps."""
    return tuple([(MOVING, stack, other) for stack, other in walk])


def _is_stack(yard, value):
    return is_whole(value) and 0 <= value < len(yard.heights)


def _is_step(yard, value):
    """Whether any value is a step with stacks of the yard; whether it can be done is not asked."""
    if not isinstance(value, tuple) or len(value) != 3 or not _is_stack(yard, value[2]):
        return False
    if value[0] == MOVING:
        return _is_stack(yard, value[1]) and value[1] != value[2]
    return value[0] in (COMING, GOING) and is_name(value[1])


def _can_do(yard, standing, came, step):
    """Whether a step can be done, where these boxes, told by a dict, came before."""
    word, thing, stack = step
    if word == GOING:
        return standing[stack][-1:] == (thing,)
    if len(standing[stack]) == yard.heights[stack]:
        return False
    if word == COMING:
        return thing not in came
    return len(standing[thing]) > 0


def after_step(standing, step):
    """The standing behind a step that can be done."""
    word, thing, stack = step
    if word == MOVING:
        return after_move(standing, thing, stack)
    piles = list(standing)
    piles[stack] = piles[stack] + (thing,) if word == COMING else piles[stack][:-1]
    return tuple(piles)


def after_steps(standing, steps):
    """The standing behind steps that can be done."""
    now = standing
    for step in steps:
        now = after_step(now, step)
    return now


def steps_way(yard, standing, boxes, steps):
    """The standings before all steps and after each one up to the first that is no step or cannot be done.

    These boxes came before, and do not come again.
    """
    came = {box: True for box in boxes}
    way = [standing]
    for step in steps:
        if not _is_step(yard, step) or not _can_do(yard, way[-1], came, step):
            return way
        if step[0] == COMING:
            came[step[1]] = True
        way.append(after_step(way[-1], step))
    return way


def run_plan(yard, plan):
    """The standings before all steps and after each step."""
    if not isinstance(plan, tuple):
        raise InvalidPlan(-1)
    way = steps_way(yard, empty_standing(yard), [], plan)
    if len(way) <= len(plan):
        raise InvalidPlan(len(way) - 1)
    return tuple(way)


def need_plan(yard, value):
    """Returns None for a plan of the yard, and raises `InvalidPlan` for any other value."""
    run_plan(yard, value)


def _is_event_step(step):
    return step[0] != MOVING


def plan_events(plan):
    """The timetable that the plan carries out."""
    return tuple([step[:2] for step in plan if _is_event_step(step)])


def plan_moves(plan):
    """The number of moves."""
    return len(plan) - len(plan_events(plan))


def _state_ends(plan):
    """For each state of the timetable how many steps lead to it."""
    return [0] + [at + 1 for at, step in enumerate(plan) if _is_event_step(step)]


def plan_states(yard, plan):
    """The standing in each state of the timetable: before all steps, and right after each event."""
    way = run_plan(yard, plan)
    return tuple([way[end] for end in _state_ends(plan)])


def does_plan(yard, timetable, value):
    """Whether any value is a plan of the yard that carries out just this timetable."""
    need_timetable(yard, timetable)
    if not isinstance(value, tuple):
        return False
    way = steps_way(yard, empty_standing(yard), [], value)
    return len(way) > len(value) and plan_events(value) == timetable


def plan_text(plan):
    """A line for each step, like `move 0 2`, `in a 1` or `out a 1`."""
    return "\n".join([f"{word} {thing} {stack}" for word, thing, stack in plan])


def _read_step(line):
    """The step that a line tells, or None."""
    words = line.split(" ")
    known = number_words(0, MOST_STACKS - 1)
    if len(words) != 3 or words[2] not in known:
        return None
    word, thing, stack = words
    if word == MOVING and thing in known and thing != stack:
        return MOVING, int(thing), int(stack)
    if word in (COMING, GOING) and is_name(thing):
        return word, thing, int(stack)
    return None


def read_plan(text):
    """The steps that a text tells; whether they can be done is not asked."""
    need_text(text)
    steps = []
    for at, line in enumerate(parts(text, "\n")):
        step = _read_step(line)
        if step is None:
            raise InvalidText(at)
        steps.append(step)
    return tuple(steps)


def plan_paper(yard, plan):
    """For each place and each stretch of its cover the box that lies there."""
    states = plan_states(yard, plan)
    table = []
    for cover, stretch in all_stretches(yard, plan_events(plan)):
        standing = states[stretch[0]]
        table.extend([((stack, level), stretch, standing[stack][level]) for stack, level in layer(yard, cover)])
    return Dealt(tuple(sorted(table)))


def mirrored_step(step):
    word, thing, stack = step
    if word == MOVING:
        return MOVING, stack, thing
    return GOING if word == COMING else COMING, thing, stack


def plan_mirror(plan):
    """The steps from the last to the first, each turned round."""
    events = plan_events(plan)
    if state_boxes(events, len(events)):
        raise Refused("boxes")
    return tuple([mirrored_step(step) for step in reversed(plan)])


def bare_plan(plan):
    """The plan with each row of moves between events replaced by its bare walk."""
    bare = []
    walk = []
    for step in plan:
        if _is_event_step(step):
            bare.extend(move_steps(bare_walk(walk)))
            bare.append(step)
            walk = []
        else:
            walk.append(step[1:])
    return tuple(bare) + move_steps(bare_walk(walk))


def switched_plan(yard, one, other, state):
    """The one plan up to a state, a walk, and from there on the other plan; None without such a walk."""
    here, there = plan_states(yard, one), plan_states(yard, other)
    timetable = plan_events(one)
    if timetable != plan_events(other):
        raise Refused("events")
    need_state(timetable, state)
    walk = walk_between(yard, here[state], there[state])
    if walk is None:
        return None
    return one[:_state_ends(one)[state]] + move_steps(walk) + other[_state_ends(other)[state]:]
