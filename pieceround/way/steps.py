"""Single steps of an exchange, for many points, and for intervals of points."""

from pieceround.base.grids import Grid, minus, plus


class Steps:
    """The pieces of an exchange from the left to the right, with pairs on a grid for all numbers."""

    def __init__(self, exchange, numbers):
        lengths, begins, shifts = exchange.lengths, exchange.begins, exchange.shifts
        self.grid = Grid([*[lengths[name] for name in exchange], *numbers])
        self.row = exchange.order.above
        self.starts = [self.grid.pair(begins[name]) for name in self.row]
        self.stops = [*self.starts[1:], self.grid.pair(exchange.total)]
        self.moves = [self.grid.pair(shifts[name]) for name in self.row]

    def index_at(self, place):
        """The index of the piece in which a place lies."""
        low, high = 0, len(self.starts)
        while high - low > 1:
            middle = (low + high) // 2
            if self.grid.compared(self.starts[middle], place) > 0:
                high = middle
            else:
                low = middle
        return low

    def letters(self, place, many):
        """The tuple of the names of the pieces in which the first points, so many, of the way of a place lie."""
        found = []
        for _ in range(many):
            index = self.index_at(place)
            found.append(self.row[index])
            place = plus(place, self.moves[index])
        return tuple(found)

    def stretches_in(self, low, high):
        """The list of (index, low, high) of the stretches of the places from low on and below high, piece by piece."""
        found = []
        index = self.index_at(low)
        while self.grid.compared(self.stops[index], high) < 0:
            found.append((index, low, self.stops[index]))
            low = self.stops[index]
            index += 1
        return [*found, (index, low, high)]

    def whole(self):
        """The pair of both ends of the segment."""
        return (self.starts[0], self.stops[-1])

    def stretch_of_letters(self, names):
        """The pair of both ends of the stretch of a trace, None if it does not come."""
        index_of = {name: index for index, name in enumerate(self.row)}
        low, high = self.whole()
        moved = minus(low, low)
        for name in names:
            index = index_of[name]
            low = self.grid.greater(low, minus(self.starts[index], moved))
            high = self.grid.lesser(high, minus(self.stops[index], moved))
            if self.grid.compared(low, high) >= 0:
                return None
            moved = plus(moved, self.moves[index])
        return (low, high)

    def returns(self, begin, end, most):
        """The list of (low, high, moved, time) of the returns to the places from begin on and below end.

        The places from low on and below high have one return path of so many steps, which leads them so far. They
        stand in no order. It is None if some return needs more steps than most.
        """
        found, ways = [], [(begin, end, minus(begin, begin))]
        for time in range(1, most + 1):
            going = []
            for low, high, moved in self.stepped(ways):
                came_low, came_high = self.grid.greater(low, begin), self.grid.lesser(high, end)
                if self.grid.compared(came_low, came_high) >= 0:
                    going.append((low, high, moved))
                    continue
                found.append((minus(came_low, moved), minus(came_high, moved), moved, time))
                # At most one of both is left, as the way began in the window.
                if low != came_low:
                    going.append((low, came_low, moved))
                if high != came_high:
                    going.append((came_high, high, moved))
            ways = going
            if not ways:
                return found
        return None

    def stepped(self, ways):
        """The list of where one step leads intervals, told as (low, high, moved), each one cut at the upper cuts."""
        led = []
        for first, last, moved in ways:
            for index, low, high in self.stretches_in(first, last):
                move = self.moves[index]
                led.append((plus(low, move), plus(high, move), plus(moved, move)))
        return led
