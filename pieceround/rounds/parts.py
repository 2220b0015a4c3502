"""Readings of exchanges, and the parts of the segment that they tell."""

from pieceround.base.words import require_count
from pieceround.errors import InvalidReading, TooMany
from pieceround.piece.exchanges import require_exchange, require_point
from pieceround.rounds.climbs import Climb
from pieceround.rounds.readings import CYCLE, ROUNDS, reading_within, rounds_in
from pieceround.rounds.segments import segment_of

MAX_ROUNDS = 4000


def reading_of(exchange, *, most=1000):
    """The reading of an exchange, which must have at most so many rounds."""
    require_exchange(exchange)
    require_count(most, 1, MAX_ROUNDS)
    reading = reading_within(exchange, most)
    if reading is None:
        raise TooMany(most)
    return reading


def is_reading(exchange, value):
    """Whether the value is the reading of an exchange."""
    require_exchange(exchange)
    many = rounds_in(value)
    # There is one reading at most, so it needs no more rounds than the value tells.
    return many is not None and many <= MAX_ROUNDS and reading_within(exchange, many) == value


class CyclePart:
    """The part of a leaf that is a cycle. Only parts_of makes it."""

    def __init__(self, begin, length, counts):
        self._begin = begin
        self._length = length
        self._counts = counts
        self._period = sum(list(counts.values()))
        self._size = length * self._period

    @property
    def begin(self):
        """Where the segment of the leaf begins."""
        return self._begin

    @property
    def size(self):
        """The length of all points of the part."""
        return self._size

    @property
    def is_loop(self):
        """False."""
        return False

    @property
    def length(self):
        """The length of the segment of the leaf."""
        return self._length

    @property
    def counts(self):
        """The dict from all names to how often a point meets their pieces until it comes back."""
        return dict(self._counts)

    @property
    def period(self):
        """How many steps lead a point back to itself."""
        return self._period

    def __eq__(self, other):
        return (isinstance(other, CyclePart) and self._begin == other._begin and self._length == other._length
                and self._counts == other._counts)


class LoopPart:
    """The part of a leaf that is a loop. Only parts_of makes it."""

    def __init__(self, begin, size, exchange, loop, share, met):
        self._begin = begin
        self._size = size
        self._order = exchange.order
        self._lengths = exchange.lengths
        self._loop = loop
        self._share = share
        self._columns = met

    @property
    def begin(self):
        """Where the segment of the leaf begins."""
        return self._begin

    @property
    def size(self):
        """The length of all points of the part."""
        return self._size

    @property
    def is_loop(self):
        """True."""
        return True

    @property
    def order(self):
        """The order of the leaf's exchange."""
        return self._order

    @property
    def lengths(self):
        """The dict of the lengths of the leaf's exchange."""
        return dict(self._lengths)

    @property
    def loop(self):
        """The course that leads the leaf's exchange to itself, but for the share."""
        return self._loop

    @property
    def share(self):
        """By what the loop divides all lengths."""
        return self._share

    @property
    def columns(self):
        """The dict from the names of the leaf's exchange to their columns."""
        return {name: dict(self._columns[name]) for name in self._columns}

    def __eq__(self, other):
        return (isinstance(other, LoopPart) and self._begin == other._begin and self._size == other._size
                and self._order == other._order and self._lengths == other._lengths and self._loop == other._loop
                and self._share == other._share and self._columns == other._columns)


def parts_of(exchange, reading):
    """The tuple of the parts of all leaves of the reading of an exchange."""
    require_exchange(exchange)
    require_reading(exchange, reading)
    return parts_by(exchange, reading)


def part_at(exchange, reading, point):
    """The index of the part that has a point, the first point of its way in the leaf's segment, and the steps there."""
    require_exchange(exchange)
    require_reading(exchange, reading)
    require_point(exchange, point)
    segment = segment_of(exchange, (point,))
    climb = Climb(segment, segment.grid.pair(point))
    climb.reach_leaf(reading)
    return (climb.leaf, segment.grid.number(climb.place), sum(climb.met))


def require_reading(exchange, value):
    """Raise InvalidReading unless the value is the reading of the exchange."""
    if not is_reading(exchange, value):
        raise InvalidReading("the reading of the exchange is asked for")


def parts_by(exchange, reading):
    """The parts of a reading that surely is the one of the exchange."""
    leaves = _leaves(segment_of(exchange, ()), reading)
    return tuple([_part(exchange.order.names, segment, entry) for segment, entry in leaves])


def _leaves(segment, reading):
    """The list of the pairs of the segment of a leaf and the leaf, for all leaves of the reading of a segment."""
    found = []
    for block, entry in list(zip(segment.blocks(), reading)):
        course = () if entry[0] == CYCLE else entry[1]
        for kind in course:
            block.do_round(kind)
        if entry[0] == ROUNDS:
            found.extend(_leaves(block, entry[2]))
        else:
            found.append((block, entry))
    return found


def _part(names, segment, entry):
    """The part of a leaf, by its segment, which is not used any more."""
    exchange = segment.as_exchange()
    head = segment.upper_row[0]
    begin = segment.grid.number(segment.starts[head])
    met = {name: dict(zip(names, segment.met[name])) for name in exchange.order.names}
    if entry[0] == CYCLE:
        return CyclePart(begin, exchange.total, met[head])
    size = exchange.total - exchange.total
    for name in exchange:
        size = size + exchange.lengths[name] * segment.period_of(name)
    for kind in entry[2]:
        segment.do_round(kind)
    share = exchange.lengths[head].over(segment.grid.number(segment.spans[head]))
    return LoopPart(begin, size, exchange, entry[2], share, met)
