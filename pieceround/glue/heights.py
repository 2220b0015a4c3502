"""Heights of an order, and exchanges that are raised by them."""

from pieceround.base.grids import Grid, plus
from pieceround.base.numbers import Number, have_one_root
from pieceround.base.orders import Order, require_order
from pieceround.base.words import require_count
from pieceround.errors import InvalidExchange, InvalidHeights, InvalidOperation, Refused
from pieceround.piece.exchanges import Exchange, are_numbers
from pieceround.rounds.rounds import MAX_COURSE, round_kind, rounded
from pieceround.rounds.rows import EVEN, LOWER, UPPER, turn_rows_back

FLAT = "flat"


def are_right(order, value):
    """Whether the value is right heights of the order."""
    require_order(order)
    if not order.is_whole or not are_numbers(order.names, value):
        return False
    # From the sum ahead of the second name on; the last sums are those of all names but the last one.
    above = _sums_ahead(order.above, value)[1:]
    below = _sums_ahead(order.below, value)[1:]
    return all([number.sign > 0 for number in above]) and all([number.sign < 0 for number in below])


def heights_of(order):
    """Right heights of a whole order."""
    require_order(order)
    if not order.is_whole:
        raise InvalidOperation("the order is not whole")
    # The first names of the upper row, so many, do not fill the first places, so their places have a greater sum.
    rises = {name: place - index for index, (name, place) in enumerate(zip(order.above, order.places))}
    return {name: Number(rises[name]) for name in order.names}


class Raised:
    """An exchange with right heights of its order."""

    def __init__(self, exchange, heights):
        if not isinstance(exchange, Exchange) or not exchange.order.is_whole:
            raise InvalidExchange("an exchange of a whole order is asked for")
        order = exchange.order
        if not are_right(order, heights) or not have_one_root((*_values(heights), *_values(exchange.lengths))):
            raise InvalidHeights("a dict of right heights that have one root with the lengths is asked for")
        self._exchange = exchange
        self._heights = {name: heights[name] for name in order.names}
        above = dict(zip(order.above, _sums_ahead(order.above, heights)))
        below = dict(zip(order.below, _sums_ahead(order.below, heights)))
        self._rises = {name: above[name] - below[name] for name in order.names}
        lengths, area, total = exchange.lengths, Number(0), Number(0)
        for name in order.names:
            area = area + lengths[name] * self._rises[name]
            total = total + heights[name]
        self._area = area
        self._back_kind = _kind_back(total.sign)

    @property
    def exchange(self):
        """The exchange."""
        return self._exchange

    @property
    def heights(self):
        """The dict from the names to their heights."""
        return dict(self._heights)

    @property
    def rises(self):
        """The dict from the names to their rises."""
        return dict(self._rises)

    @property
    def area(self):
        """The sum of the lengths, each multiplied by the rise of its name."""
        return self._area

    @property
    def back_kind(self):
        """The kind of the round that leads here, None if there is none."""
        return self._back_kind

    def rounded(self):
        """The raised exchange behind the round."""
        kind = round_kind(self._exchange)
        if kind == EVEN:
            raise Refused((EVEN,))
        winner, loser = _winner_and_loser(self._exchange.order.above, self._exchange.order.below, kind)
        heights = dict(self._heights)
        heights[winner] = heights[winner] - heights[loser]
        return Raised(rounded(self._exchange), heights)

    def rounded_back(self):
        """The raised exchange whose round leads here."""
        kind = self._back_kind
        if kind is None:
            raise Refused((FLAT,))
        order, lengths, heights = self._exchange.order, self._exchange.lengths, dict(self._heights)
        upper, lower = list(order.above), list(order.below)
        turn_rows_back(upper, lower, kind)
        winner, loser = _winner_and_loser(upper, lower, kind)
        lengths[winner] = lengths[winner] + lengths[loser]
        heights[winner] = heights[winner] + heights[loser]
        return Raised(Exchange(Order(tuple(upper), tuple(lower)), lengths), heights)

    def course_back(self, many):
        """The tuple of the kinds of the rounds that are taken back, so many, or fewer if there are no more."""
        require_count(many, 0, MAX_COURSE)
        order = self._exchange.order
        upper, lower = list(order.above), list(order.below)
        grid = Grid(_values(self._heights))
        heights = {name: grid.pair(self._heights[name]) for name in order}
        total = (0, 0)
        for name in order:
            total = plus(total, heights[name])
        kinds, kind = [], self._back_kind
        while kind is not None and len(kinds) < many:
            turn_rows_back(upper, lower, kind)
            kinds.append(kind)
            winner, loser = _winner_and_loser(upper, lower, kind)
            heights[winner] = plus(heights[winner], heights[loser])
            total = plus(total, heights[loser])
            kind = _kind_back(grid.compared(total, (0, 0)))
        return tuple(kinds)

    def inverse(self):
        """The inverse exchange, raised by the opposite heights."""
        return Raised(self._exchange.inverse(), {name: -self._heights[name] for name in self._exchange})

    def __eq__(self, other):
        return isinstance(other, Raised) and self._exchange == other._exchange and self._heights == other._heights

    def __str__(self):
        return f"raised {self._exchange.order}"


def _values(numbers):
    """The list of the values of a dict."""
    return list(numbers.values())


def _sums_ahead(row, heights):
    """The list of the sums of the heights ahead of each name of a row."""
    sums = [Number(0)]
    for name in row[:-1]:
        sums.append(sums[-1] + heights[name])
    return sums


def _kind_back(sign):
    """The kind of the round that leads to heights whose sum has this sign, None if there is none."""
    if sign == 0:
        return None
    return UPPER if sign < 0 else LOWER


def _winner_and_loser(upper, lower, kind):
    """The winner and the loser of a round of this kind, not even, by the rows ahead of it."""
    return (upper[-1], lower[-1]) if kind == UPPER else (lower[-1], upper[-1])
