"""Far steps: where a point is behind any number of steps, and what it meets on the way."""

from pieceround.base.grids import plus
from pieceround.base.words import require_count
from pieceround.piece.exchanges import require_exchange, require_point
from pieceround.rounds.climbs import Climb
from pieceround.rounds.parts import require_reading
from pieceround.rounds.readings import CYCLE, LOOP, turned_over
from pieceround.rounds.rows import added, changed_name
from pieceround.rounds.segments import segment_of

MAX_STEPS = 1000000000000000000000000000000


class FarClimb(Climb):
    """A climb that ends behind a number of steps.

    It goes up while there are enough steps left for whole paths, and then down, path by path.
    """

    def __init__(self, segment, place, many):
        super().__init__(segment, place)
        self.left = many
        self.records = []

    def stops_on(self, name):
        return self.left < self.segment.period_of(name)

    def follow_path(self, name):
        self.left -= self.segment.period_of(name)
        super().follow_path(name)

    def do_round(self, kind):
        above, below = self.segment.last_names()
        changed = changed_name(above, below, kind)
        self.records.append((changed, above, below, self.segment.moves[below], self.segment.met[below]))
        super().do_round(kind)

    def descend(self, name):
        """Do the steps that are left, fewer than the path of the name has."""
        for changed, above, below, move, met in self.records[::-1]:
            # Ahead of the round, the path was that of below and then that of above.
            if name == changed:
                name = below
                if self.left >= sum(met):
                    self.place = plus(self.place, move)
                    self.met = added(self.met, met)
                    self.left -= sum(met)
                    name = above


def point_far(exchange, reading, point, many):
    """The point behind so many steps, or from which so many steps lead to the point if many is below 0."""
    require_exchange(exchange)
    require_reading(exchange, reading)
    require_point(exchange, point)
    require_count(many, -MAX_STEPS, MAX_STEPS)
    if many < 0:
        climb = _done(exchange.inverse(), turned_over(reading), point, -many)
    else:
        climb = _done(exchange, reading, point, many)
    return climb.segment.grid.number(climb.place)


def counts_far(exchange, reading, point, many):
    """The dict from all names to how many of the first points of the way, so many, lie in their pieces."""
    require_exchange(exchange)
    require_reading(exchange, reading)
    require_point(exchange, point)
    require_count(many, 0, MAX_STEPS)
    return dict(zip(exchange.order.names, _done(exchange, reading, point, many).met))


def period_at(exchange, reading, point):
    """The least number of steps above 0 behind which the point comes back to itself, None if it never does."""
    require_exchange(exchange)
    require_reading(exchange, reading)
    require_point(exchange, point)
    segment = segment_of(exchange, (point,))
    climb = Climb(segment, segment.grid.pair(point))
    entry, _ = climb.reach_leaf(reading)
    return climb.segment.period_of(climb.segment.upper_row[0]) if entry[0] == CYCLE else None


def _done(exchange, reading, point, many):
    """The climb of a point behind so many steps, from 0 on."""
    segment = segment_of(exchange, (point,))
    climb = FarClimb(segment, segment.grid.pair(point), many)
    entry, name = climb.reach_leaf(reading)
    if name is None and entry[0] == LOOP:
        name = climb.rise_on(entry[2])
    elif name is None:
        name = climb.segment.upper_row[0]
        turns, climb.left = divmod(climb.left, climb.segment.period_of(name))
        climb.met = tuple([told + turns * more for told, more in zip(climb.met, climb.segment.met[name])])
    climb.descend(name)
    return climb
