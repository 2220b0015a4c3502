"""Segments of an exchange that become shorter, round by round."""

from pieceround.base.grids import Grid, minus, plus
from pieceround.base.orders import Order
from pieceround.piece.exchanges import Exchange
from pieceround.rounds.rows import EVEN, LOWER, UPPER, added, changed_name, turn_rows


class Segment:
    """A stretch of an exchange, with the exchange that leads each of its points to the next one that is in it.

    All points are those of the whole exchange, told by pairs on a grid. Of a name of the stretch, spans has the
    length, starts the begin of its piece, moves the sum of the shifts on its path, and met the tuple that tells how
    often this path comes into the piece of each name of the whole exchange, these being ascending. The stretch ends
    at stop.
    """

    def __init__(self, grid, upper, lower, stop):
        self.grid = grid
        self.upper_row = list(upper)
        self.lower_row = list(lower)
        self.stop = stop
        self.spans = {}
        self.starts = {}
        self.moves = {}
        self.met = {}

    def blocks(self):
        """The list of the blocks of the stretch, each one a segment."""
        found = []
        for order in self.as_order().blocks():
            block = Segment(self.grid, order.above, order.below, self.piece_end(order.above[-1]))
            for name in order:
                block.spans[name] = self.spans[name]
                block.starts[name] = self.starts[name]
                block.moves[name] = self.moves[name]
                block.met[name] = self.met[name]
            found.append(block)
        return found

    def as_order(self):
        """The order of the rows."""
        return Order(tuple(self.upper_row), tuple(self.lower_row))

    def as_exchange(self):
        """The exchange of the stretch, its points being counted from its begin."""
        return Exchange(self.as_order(), {name: self.grid.number(self.spans[name]) for name in self.upper_row})

    def piece_end(self, name):
        """Where the piece of a name ends."""
        return plus(self.starts[name], self.spans[name])

    def name_at(self, place):
        """The name of the piece in which a place of the stretch lies."""
        low, high = 0, len(self.upper_row)
        while high - low > 1:
            middle = (low + high) // 2
            if self.grid.compared(self.starts[self.upper_row[middle]], place) > 0:
                high = middle
            else:
                low = middle
        return self.upper_row[low]

    def period_of(self, name):
        """How many steps of the whole exchange the path of a name has."""
        return sum(self.met[name])

    def last_names(self):
        """The last names of the upper and the lower row."""
        return (self.upper_row[-1], self.lower_row[-1])

    def round_kind(self):
        """The kind of the next round."""
        above, below = self.last_names()
        sign = self.grid.compared(self.spans[above], self.spans[below])
        if sign == 0:
            return EVEN
        return UPPER if sign > 0 else LOWER

    def stop_behind(self, kind):
        """Where the stretch ends behind a round of this kind."""
        above, below = self.last_names()
        return minus(self.stop, self.spans[below if kind == UPPER else above])

    def do_round(self, kind):
        """Do a round, which must have this kind."""
        above, below = self.last_names()
        self.stop = self.stop_behind(kind)
        changed = changed_name(above, below, kind)
        self.moves[changed] = plus(self.moves[below], self.moves[above])
        self.met[changed] = added(self.met[below], self.met[above])
        turn_rows(self.upper_row, self.lower_row, kind)
        if kind == UPPER:
            self.spans[above] = minus(self.spans[above], self.spans[below])
        elif kind == LOWER:
            self.spans[below] = minus(self.spans[below], self.spans[above])
            # It becomes the right end of the other piece; no other piece begins elsewhere than before.
            self.starts[above] = self.piece_end(below)


def segment_of(exchange, numbers):
    """The whole segment of an exchange, on a grid that has these numbers, too."""
    lengths, begins, shifts = exchange.lengths, exchange.begins, exchange.shifts
    grid = Grid([*[lengths[name] for name in exchange], *numbers])
    segment = Segment(grid, exchange.order.above, exchange.order.below, grid.pair(exchange.total))
    names = exchange.order.names
    for name in names:
        segment.spans[name] = grid.pair(lengths[name])
        segment.starts[name] = grid.pair(begins[name])
        segment.moves[name] = grid.pair(shifts[name])
        segment.met[name] = tuple([int(other == name) for other in names])
    return segment
