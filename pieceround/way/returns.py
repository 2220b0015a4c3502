"""Returns to a window, and first visits to it."""

from pieceround.base.grids import ascending
from pieceround.base.numbers import Number, have_one_root
from pieceround.base.orders import MAX_NAMES
from pieceround.base.words import require_count
from pieceround.errors import InvalidPoint, TooMany
from pieceround.piece.exchanges import exchange_of, fits_root, require_exchange, require_point
from pieceround.rounds.parts import require_reading
from pieceround.rounds.readings import LOOP
from pieceround.rounds.segments import segment_of
from pieceround.way.steps import Steps
from pieceround.way.visits import VisitClimb

MAX_RETURN = 10000


def returns_to(exchange, begin, end, *, most=1000):
    """The exchange of the returns to a window, and the dict from its names to the return times."""
    require_exchange(exchange)
    _require_window(exchange, (), begin, end)
    require_count(most, 1, MAX_RETURN)
    steps = Steps(exchange, (begin, end))
    grid = steps.grid
    found = steps.returns(grid.pair(begin), grid.pair(end), most)
    if found is None:
        raise TooMany(most)
    if len(found) > MAX_NAMES:
        raise TooMany(MAX_NAMES)
    starts = [grid.number(low) - begin for low, _, _, _ in found]
    rows = ascending(starts)
    images = [starts[index] + grid.number(found[index][2]) for index in rows]
    told = exchange_of([starts[index] for index in rows], images, end - begin)
    times = dict(zip(told, [found[index][3] for index in rows]))
    return (told, {name: times[name] for name in told.order.names})


def first_visit(exchange, reading, point, begin, end):
    """The least number of steps, from 0 on, that lead the point into a window, None if its way never comes there."""
    require_exchange(exchange)
    require_reading(exchange, reading)
    require_point(exchange, point)
    _require_window(exchange, (point,), begin, end)
    segment = segment_of(exchange, (point, begin, end))
    grid = segment.grid
    climb = VisitClimb(segment, grid.pair(point), grid.pair(begin), grid.pair(end))
    entry, name = climb.reach_leaf(reading)
    if name is None:
        if not climb.can_come():
            return None
        # In a loop each way comes into the window; in a cycle just those do that come there on their one path.
        name = climb.rise_on(entry[2]) if entry[0] == LOOP else climb.segment.upper_row[0]
    height = climb.height_at(name)
    return None if height is None else sum(climb.met) + height


def _require_window(exchange, points, begin, end):
    """Raise InvalidPoint unless both are a window of the exchange and have one root with these points of it."""
    require_point(exchange, begin)
    if not isinstance(end, Number) or not fits_root(exchange, end) or not have_one_root((*points, begin, end)):
        raise InvalidPoint("numbers that have one root with the lengths and the points are asked for")
    if end.compared(begin) <= 0 or end.compared(exchange.total) > 0:
        raise InvalidPoint("the end must be above the begin and at most the total")
