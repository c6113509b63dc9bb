"""Yards, their places, and which of these are deep."""

from staysdeep.errors import InvalidSize, InvalidYard
from staysdeep.atoms import is_whole

FEWEST_STACKS = 3
MOST_STACKS = 12
GREATEST_HEIGHT = 12


class Yard:
    """A yard; `heights` has the number of places of each stack."""

    def __init__(self, heights):
        if not isinstance(heights, (list, tuple)) or not FEWEST_STACKS <= len(heights) <= MOST_STACKS:
            raise InvalidYard(-1)
        for at, height in enumerate(heights):
            if not is_whole(height) or not 1 <= height <= GREATEST_HEIGHT:
                raise InvalidYard(at)
        self.heights = tuple(heights)

    def __eq__(self, other):
        return isinstance(other, Yard) and self.heights == other.heights


def need_stack(yard, stack):
    """Raises `InvalidSize("stack")` for an integer that is no stack of the yard."""
    if not 0 <= stack < len(yard.heights):
        raise InvalidSize("stack")


def need_boxes(yard, boxes):
    """Raises `InvalidSize("boxes")` for an integer that is no number of boxes in the yard."""
    if not 0 <= boxes <= places(yard):
        raise InvalidSize("boxes")


def places(yard):
    """The number of all places."""
    return sum(yard.heights)


def others(yard, stack):
    """The number of places in all stacks but this one."""
    need_stack(yard, stack)
    return places(yard) - yard.heights[stack]


def cover_of(yard, stack, level):
    """The number of places above a place."""
    need_stack(yard, stack)
    if not 0 <= level < yard.heights[stack]:
        raise InvalidSize("level")
    return yard.heights[stack] - 1 - level


def layer(yard, cover):
    """The lot of the places with a cover."""
    return tuple([(stack, height - 1 - cover) for stack, height in enumerate(yard.heights) if cover < height])


def deep_row(yard, boxes):
    """For each stack the number of its places that are deep while so many boxes are in the yard."""
    need_boxes(yard, boxes)
    free = places(yard) - boxes
    return tuple([max(0, height - free) for height in yard.heights])


def deep_count(yard, boxes):
    """The number of the deep places."""
    return sum(deep_row(yard, boxes))


def deep_places(yard, boxes):
    """The lot of the deep places: the lowest ones of each stack."""
    return tuple([(stack, level) for stack, deep in enumerate(deep_row(yard, boxes)) for level in range(deep)])
