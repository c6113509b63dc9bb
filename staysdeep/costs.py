"""What told starts and wished ends cost: how many there are, and how few deep places need another box."""

from staysdeep.classes import class_size
from staysdeep.court import deal_ways, shorts_among
from staysdeep.errors import InvalidSize
from staysdeep.standings import boxes_of
from staysdeep.starts import Onward, onward_from
from staysdeep.stretches import owed, staying
from staysdeep.timetables import need_events
from staysdeep.yards import cover_of, deep_places, layer, places


def count_starts(yard, lot, events):
    """From how many of all standings of a lot of boxes the events can be carried out."""
    if len(lot) > places(yard):
        raise InvalidSize("boxes")
    need_events(events, places(yard), lot)
    onward = Onward(yard, lot, events)
    if shorts_among(yard, onward.told, onward.spans):
        return 0
    first = [row for row in onward.told if row[1][0] == 0]
    return deal_ways(yard, first, onward.spans) * class_size(yard, len(lot))


def count_ends(yard, standing, events):
    """In how many standings the events can end."""
    onward = onward_from(yard, standing, events)
    if onward.torns() or shorts_among(yard, onward.unbound(), onward.spans):
        return 0
    there = [box for box, _, last in onward.spans if last == onward.last]
    final = [row for row in onward.unbound() if row[1][1] == onward.last]
    return deal_ways(yard, final, onward.spans) * class_size(yard, len(there))


class Repair:
    """Events behind a standing, told by an `Onward`, and what could stay as it is.

    `lots` has the stayers by the covers that are deep at the start, and `spare` how many more there are than are
    owed. `good` has for each place whose box may lie there all along the pair of its cover and the last cover of its
    row: the row of a pair (cover, end) goes from the one behind the cover to the end.
    """

    def __init__(self, onward, standing):
        self.yard = onward.yard
        self.standing = standing
        self.lots = {cover: staying(onward.spans, stretch) for cover, stretch in onward.told if stretch[0] == 0}
        self.spare = {cover: len(self.lots[cover]) - owed(self.yard, cover) for cover in self.lots}
        self.deep = deep_places(self.yard, len(boxes_of(standing)))
        self.good = {}
        for stack, level in self.deep:
            cover = cover_of(self.yard, stack, level)
            box = standing[stack][level]
            if box in self.lots[cover]:
                end = max([further for further in self.lots if box in self.lots[further]])
                self.good[(stack, level)] = (cover, end)

    def bound(self, covers):
        """So many places at least need another box."""
        clear = [row for row in self.good.values() if not _hits(row, covers)]
        return len(self.deep) - len(clear) - sum([self.spare[cover] for cover in covers])

    def kept(self):
        """As many good places as can all keep their boxes at once."""
        left = {place: self.good[place] for place in self.good}
        for cover in sorted(self.spare):
            over = [place for place in left if _hits(left[place], [cover])]
            # Whoever would be in the way longest gives way first.
            over = sorted(over, key=lambda place: left[place][1])
            for place in over[self.spare[cover]:]:
                del left[place]
        return left

    def deep_part(self):
        """The boxes by the deep places, with as many kept as can be, and such that the events can be carried out."""
        lain = {(stack, level): self.standing[stack][level] for stack, level in self.kept()}
        taken = {lain[place]: True for place in lain}
        # What a greater cover needs is also there for the less ones: so the greatest one chooses first.
        for cover in sorted(self.lots, reverse=True):
            loose = [box for box in self.lots[cover] if box not in taken]
            bare = [place for place in layer(self.yard, cover) if place not in lain]
            for place, box in zip(bare, loose):
                lain[place] = box
                taken[box] = True
        return lain

    def mended(self):
        """A standing with this deep part, and all other boxes anywhere."""
        lain = self.deep_part()
        held = [lain[place] for place in lain]
        left = [box for box in boxes_of(self.standing) if box not in held]
        piles = []
        for stack, height in enumerate(self.yard.heights):
            pile = [lain[(stack, level)] for level in range(height) if (stack, level) in lain]
            room = height - len(pile)
            piles.append(tuple(pile + left[:room]))
            left = left[room:]
        return tuple(piles)

    def tight(self):
        """Some covers for which the bound is the greatest."""
        # For each cover, as the last one that is taken so far: how little, at the least, the covers up to it leave to
        # the rows that begin below it, and these covers.
        best = {-1: (0, ())}
        ends = sorted(self.spare) + [max(self.yard.heights)]
        for cover in ends:
            ways = []
            for before, (many, covers) in best.items():
                clear = [row for row in self.good.values() if before <= row[0] and row[1] < cover]
                ways.append((many + len(clear) + self.spare.get(cover, 0), covers + (cover,)))
            best[cover] = min(ways)
        return best[ends[-1]][1][:-1]


def _hits(row, covers):
    """Whether a row has one of the covers."""
    return any([row[0] < cover <= row[1] for cover in covers])


def _repair_of(yard, standing, events):
    """What could stay as it is; None if the events can be carried out from no standing of these boxes."""
    onward = onward_from(yard, standing, events)
    if shorts_among(yard, onward.told, onward.spans):
        return None
    return Repair(onward, standing)


def least_changes(yard, standing, events):
    """How many deep places, at the fewest, need another box; None if the events can be carried out from nowhere."""
    repair = _repair_of(yard, standing, events)
    if repair is None:
        return None
    return len(repair.deep) - len(repair.kept())


def mended_start(yard, standing, events):
    """Some standing of the same boxes with so few changes, from which the events can be carried out, or None."""
    repair = _repair_of(yard, standing, events)
    if repair is None:
        return None
    return repair.mended()


def change_bound(yard, standing, events, covers):
    """A number that `least_changes` is not below, from some covers that are deep at the start."""
    repair = Repair(onward_from(yard, standing, events), standing)
    for cover in covers:
        if cover not in repair.spare:
            raise InvalidSize("cover")
    return repair.bound(covers)


def tight_covers(yard, standing, events):
    """Some covers for which `change_bound` is `least_changes`, or None."""
    repair = _repair_of(yard, standing, events)
    if repair is None:
        return None
    return repair.tight()
