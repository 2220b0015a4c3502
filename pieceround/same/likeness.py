"""Likeness: exchanges that come round, and what leads one to another; swaps of the names of a row."""

from pieceround.base.numbers import Number
from pieceround.base.orders import require_order
from pieceround.base.words import is_any_integer
from pieceround.errors import InvalidOperation, TooMany
from pieceround.piece.exchanges import fits_root, require_exchange
from pieceround.rounds.parts import parts_by
from pieceround.rounds.readings import has_loop, reading_within
from pieceround.same.strips import Spread

MAX_READ = 1000


def periods(exchange):
    """The dict from the periods of all points to the lengths of all points that have them."""
    require_exchange(exchange)
    return _lengths_by_period(parts_by(exchange, _round_reading(exchange)))


def leading(one, other):
    """A leading of two exchanges, None if they are not alike."""
    readings = _two_readings(one, other)
    first, second = parts_by(one, readings[0]), parts_by(other, readings[1])
    if _lengths_by_period(first) != _lengths_by_period(second):
        return None
    strips = []
    for period in _lengths_by_period(first):
        strips.extend(_strips(_spans(first, period), _spans(second, period), period))
    return tuple(strips)


def is_leading(one, other, value):
    """Whether the value is a leading of two exchanges."""
    readings = _two_readings(one, other)
    if one.total != other.total or not isinstance(value, tuple) or len(value) == 0:
        return False
    if not all([_is_strip(strip) for strip in value]):
        return False
    numbers = [number for strip in value for number in strip[:3]]
    roots = [root for root in (one.root, other.root, *[number.root for number in numbers]) if root != 0]
    if any([root != roots[0] for root in roots]):
        return False
    first = [(begin, begin + length, period) for begin, _, length, period in value]
    second = [(begin, begin + length, period) for _, begin, length, period in value]
    return Spread(one, numbers).covers(readings[0], first) and Spread(other, numbers).covers(readings[1], second)


def swaps(order):
    """Swaps of an order."""
    require_order(order)
    row, place = list(order.above), {name: index for index, name in enumerate(order.below)}
    found = []
    for end in range(1, len(row)):
        # The names ahead of this one stand as they do below; it goes to its place among them.
        at = end
        while at > 0 and place[row[at - 1]] > place[row[at]]:
            found.append((row[at - 1], row[at]))
            row[at - 1], row[at] = row[at], row[at - 1]
            at -= 1
    return tuple(found)


def is_swaps(order, value):
    """Whether the value is the swaps of an order."""
    require_order(order)
    # All swaps of an order are equally many.
    if not isinstance(value, tuple) or len(value) != len(swaps(order)):
        return False
    row = list(order.above)
    for pair in value:
        if not isinstance(pair, tuple) or len(pair) != 2 or pair[0] not in row:
            return False
        at = row.index(pair[0])
        if at + 1 == len(row) or row[at + 1] != pair[1]:
            return False
        row[at], row[at + 1] = row[at + 1], row[at]
    return tuple(row) == order.below


def _round_reading(exchange):
    """The reading of an exchange, which must come round."""
    reading = reading_within(exchange, MAX_READ)
    if reading is None:
        raise TooMany(MAX_READ)
    if has_loop(reading):
        raise InvalidOperation("some points never come back")
    return reading


def _two_readings(one, other):
    """The pair of the readings of two exchanges that come round and have one root."""
    require_exchange(one)
    require_exchange(other)
    if not fits_root(one, other):
        raise InvalidOperation("two exchanges with one root are asked for")
    return (_round_reading(one), _round_reading(other))


def _lengths_by_period(parts):
    """The dict from the periods of cycle parts, ascending, to the sums of their sizes."""
    found = {period: Number(0) for period in sorted([part.period for part in parts])}
    for part in parts:
        found[part.period] = found[part.period] + part.size
    return found


def _spans(parts, period):
    """The list of the pairs (begin, length) of the segments of all cycle parts with this period."""
    return [(part.begin, part.length) for part in parts if part.period == period]


def _strips(spans, others, period):
    """The list of the strips that lead spans to others, in their order, which are equally long together."""
    found, index, at = [], 0, 0
    begin, length = spans[0]
    other_begin, other_length = others[0]
    while True:
        shared = length if length.compared(other_length) < 0 else other_length
        found.append((begin, other_begin, shared, period))
        begin, length = begin + shared, length - shared
        other_begin, other_length = other_begin + shared, other_length - shared
        if length.sign == 0:
            index += 1
            if index == len(spans):
                return found
            begin, length = spans[index]
        if other_length.sign == 0:
            at += 1
            other_begin, other_length = others[at]


def _is_strip(value):
    """Whether the value is a tuple of three numbers and of an integer from 1 on, however long."""
    if not isinstance(value, tuple) or len(value) != 4 or not all([isinstance(part, Number) for part in value[:3]]):
        return False
    return is_any_integer(value[3]) and value[3] >= 1
