"""First visits to a window, found along the rounds of a reading."""

from pieceround.base.grids import minus
from pieceround.rounds.climbs import Climb
from pieceround.rounds.rows import EVEN, changed_name


class VisitClimb(Climb):
    """A climb that ends as soon as it is known when the point comes into a window.

    Of a name of the segment, visits has the list of (height, low, high): on the path of the name, the places from low
    on and below high are in the window behind so many steps. It ends with the first height that has the whole piece.
    """

    def __init__(self, segment, place, begin, end):
        super().__init__(segment, place)
        self.visits = {}
        for name in segment.upper_row:
            self.visits[name] = self.visits_in(name, [(0, begin, end)])

    def height_at(self, name):
        """Behind how many steps of the path of a name the point is in the window for the first time, None if never."""
        grid = self.segment.grid
        for height, low, high in self.visits[name]:
            if grid.compared(low, self.place) <= 0 and grid.compared(self.place, high) < 0:
                return height
        return None

    def stops_on(self, name):
        return self.height_at(name) is not None

    def do_round(self, kind):
        above, below = self.segment.last_names()
        period, move = self.segment.period_of(below), self.segment.moves[below]
        later = [(height + period, minus(low, move), minus(high, move)) for height, low, high in self.visits[above]]
        self.visits[changed_name(above, below, kind)] = [*self.visits[below], *later]
        super().do_round(kind)
        self.visits[below] = self.visits_in(below, self.visits[below])
        if kind != EVEN:
            self.visits[above] = self.visits_in(above, self.visits[above])

    def visits_in(self, name, visits):
        """What is left of visits in the piece of a name."""
        grid, start, stop = self.segment.grid, self.segment.starts[name], self.segment.piece_end(name)
        found = []
        for height, begin, end in visits:
            low, high = grid.greater(begin, start), grid.lesser(end, stop)
            if grid.compared(low, high) < 0:
                found.append((height, low, high))
                if low == start and high == stop:
                    return found
        return found

    def can_come(self):
        """Whether any path of the segment comes into the window."""
        return any([len(self.visits[name]) > 0 for name in self.segment.upper_row])
