"""Moves from stack to stack, and walks of them."""

from staysdeep.errors import InvalidMove
from staysdeep.standings import need_standing
from staysdeep.atoms import is_whole


def _is_told_move(yard, value):
    """Whether any value is a pair of unlike stacks of the yard."""
    if not isinstance(value, tuple) or len(value) != 2:
        return False
    stacks = len(yard.heights)
    return all([is_whole(at) and 0 <= at < stacks for at in value]) and value[0] != value[1]


def _has_way(yard, standing, stack, other):
    """Whether a box lies on the one stack, and the other one has a free place."""
    return len(standing[stack]) > 0 and len(standing[other]) < yard.heights[other]


def after_move(standing, stack, other):
    """The standing behind a move that can be done."""
    piles = list(standing)
    piles[stack] = standing[stack][:-1]
    piles[other] = standing[other] + standing[stack][-1:]
    return tuple(piles)


def walk_standings(yard, standing, walk):
    """All standings on the way of a walk, both ends with them."""
    need_standing(yard, standing)
    if not isinstance(walk, tuple):
        raise InvalidMove(-1)
    way = [standing]
    for at, move in enumerate(walk):
        if not _is_told_move(yard, move) or not _has_way(yard, way[-1], move[0], move[1]):
            raise InvalidMove(at)
        way.append(after_move(way[-1], move[0], move[1]))
    return tuple(way)


def walked(yard, standing, walk):
    """The standing behind a walk."""
    return walk_standings(yard, standing, walk)[-1]


def moved(yard, standing, move):
    """The standing behind one move."""
    return walked(yard, standing, (move,))


def lifted(yard, standing, walk):
    """The lot of the boxes that a walk moves."""
    way = walk_standings(yard, standing, walk)
    return tuple(sorted({way[at][move[0]][-1] for at, move in enumerate(walk)}))


def moves_from(yard, standing):
    """The lot of all moves that can be done."""
    need_standing(yard, standing)
    stacks = range(len(yard.heights))
    pairs = [(stack, other) for stack in stacks for other in stacks if stack != other]
    return tuple([pair for pair in pairs if _has_way(yard, standing, pair[0], pair[1])])


def walk_back(walk):
    """The moves from the last to the first, each turned round."""
    return tuple([(other, stack) for stack, other in reversed(walk)])


def bare_walk(walk):
    """The walk with moves of one box that follow each other put together."""
    bare = []
    for stack, other in walk:
        begin = stack
        if bare and bare[-1][1] == stack:
            # The move before the popped one does not end where that begins, so once is enough.
            begin = bare.pop()[0]
        if begin != other:
            bare.append((begin, other))
    return tuple(bare)
