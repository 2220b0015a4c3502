"""Points that are led up through the rounds of a reading."""

from pieceround.base.grids import plus
from pieceround.rounds.readings import CYCLE, LOOP, leaves_in
from pieceround.rounds.rows import added


class Climb:
    """A point that is led into ever shorter segments, those behind the rounds of a reading, up to that of a leaf.

    The segment is the one that is reached, place where the point is in it, and met tells how often the way there
    came into the piece of each name of the whole exchange, these being ascending.
    """

    def __init__(self, segment, place):
        self.segment = segment
        self.place = place
        self.met = (0,) * len(segment.upper_row)
        self.leaf = 0

    def stops_on(self, name):
        """Whether the climb comes to its end on the path of a name, which begins at the place."""
        return False

    def follow_path(self, name):
        """Lead the point along the path of the name of its piece."""
        self.place = plus(self.place, self.segment.moves[name])
        self.met = added(self.met, self.segment.met[name])

    def do_round(self, kind):
        """Do a round of the segment, in which the point stays."""
        self.segment.do_round(kind)

    def rise(self, course):
        """Lead the point through the rounds of a course: the name on whose path the climb ends, None if it does not."""
        for kind in course:
            if self.segment.grid.compared(self.place, self.segment.stop_behind(kind)) >= 0:
                # What is cut off lies in the last piece.
                name = self.segment.upper_row[-1]
                if self.stops_on(name):
                    return name
                self.follow_path(name)
            self.do_round(kind)
        return None

    def rise_on(self, loop):
        """Lead the point through a loop again and again: the name on whose path the climb ends."""
        name = None
        while name is None:
            name = self.segment.name_at(self.place)
            if not self.stops_on(name):
                name = self.rise(loop)
        return name

    def enter_block(self, reading):
        """Go on with the block in which the point lies: its entry."""
        blocks = self.segment.blocks()
        index = len(blocks) - 1
        while self.segment.grid.compared(self.place, blocks[index].starts[blocks[index].upper_row[0]]) < 0:
            index -= 1
        self.segment = blocks[index]
        self.leaf += leaves_in(reading[:index])
        return reading[index]

    def reach_leaf(self, reading):
        """Lead the point to its leaf: the pair of it and of the name on whose path the climb ends before, or None."""
        entry = self.enter_block(reading)
        while entry[0] != CYCLE:
            name = self.rise(entry[1])
            if name is not None or entry[0] == LOOP:
                return (entry, name)
            entry = self.enter_block(entry[2])
        return (entry, None)
