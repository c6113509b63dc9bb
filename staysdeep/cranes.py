"""A crane: it carries boxes in a yard, and keeps the walk that it makes."""


class Crane:
    """The boxes as they lie now are the lists of `piles`; the moves up to now are the list `walk`."""

    def __init__(self, heights, standing):
        self.heights = heights
        self.piles = [list(pile) for pile in standing]
        self.walk = []

    def room(self, stack):
        """The number of free places of a stack."""
        return self.heights[stack] - len(self.piles[stack])

    def stack_of(self, box):
        """The stack in which a box lies now."""
        return [stack for stack, pile in enumerate(self.piles) if box in pile][0]

    def stacks_but(self, stack, other):
        """All stacks but these two."""
        return [at for at in range(len(self.heights)) if at != stack and at != other]

    def lift(self, stack, other):
        """Lays the top box of one stack on another one."""
        self.piles[other].append(self.piles[stack].pop())
        self.walk.append((stack, other))

    def unload(self, stack, level, others):
        """Lays all boxes from a level of a stack on onto other stacks, each on the first one that has room."""
        while len(self.piles[stack]) > level:
            roomy = [other for other in others if self.room(other) > 0]
            self.lift(stack, roomy[0])

    def put_down(self, box, stack, level):
        """Brings a box to a level of a stack, and touches nothing that lies lower in it.

        The lowest boxes of each stack may be such that are to stay. Let h be the number of places of this
        stack from the level on; no other one has more above what stays there, and at least h are free in all.
        If h is more than 1, each stack has such a place. Then there are at most 3 * h + 2 moves, and what is to
        stay does.
        """
        if self.piles[stack][level:level + 1] == [box]:
            return
        self.unload(stack, level, self.stacks_but(stack, stack))
        source = self.stack_of(box)
        if self.piles[source][-1] != box:
            source = self.uncover(box, source, stack)
        self.lift(source, stack)

    def uncover(self, box, source, stack):
        """Brings a box up to the top of a third stack, which it returns; `stack` lends its room."""
        level = len(self.piles[stack])
        third = self.make_room(source, stack)
        while self.piles[source][-1] != box:
            self.lift(source, stack)
        self.lift(source, third)
        # What lay on the box, and what was laid aside to make room, have just the room that is left there.
        self.unload(stack, level, [source])
        return third

    def make_room(self, source, stack):
        """Some third stack with room; if there is none, the top box of one is laid on `stack`."""
        thirds = self.stacks_but(source, stack)
        roomy = [third for third in thirds if self.room(third) > 0]
        if roomy:
            return roomy[0]
        self.lift(thirds[0], stack)
        return thirds[0]
