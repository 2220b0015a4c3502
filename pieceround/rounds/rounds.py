"""Rounds of exchanges and of orders, and what a course of them does with names and lengths."""

from pieceround.base.numbers import Number
from pieceround.base.orders import Order, require_order
from pieceround.base.words import require_count
from pieceround.errors import InvalidCourse, InvalidLengths, InvalidOperation, TooMany
from pieceround.piece.exchanges import are_lengths, require_exchange
from pieceround.rounds.rows import EVEN, added, are_whole, changed_name, turn_rows
from pieceround.rounds.segments import segment_of

KINDS = ("upper", "lower", "even")
MAX_COURSE = 4000
MAX_PATH = 100000


def round_kind(exchange):
    """The kind of the round of an exchange."""
    return _segment_of_whole(exchange).round_kind()


def rounded(exchange):
    """The exchange behind a round."""
    segment = _segment_of_whole(exchange)
    segment.do_round(segment.round_kind())
    return segment.as_exchange()


def course_of(exchange, many):
    """The course of the first rounds, so many, or fewer if the order is not whole any more."""
    require_exchange(exchange)
    require_count(many, 0, MAX_COURSE)
    _, course = _led_on(exchange, many)
    return tuple(course)


def rounded_by(exchange, course):
    """The exchange behind the rounds of a course, each of which must have its kind."""
    require_exchange(exchange)
    follow_course(exchange.order, course)
    segment = segment_of(exchange, ())
    for kind in course:
        if segment.round_kind() != kind:
            raise InvalidCourse("the exchange has another course")
        segment.do_round(kind)
    return segment.as_exchange()


def order_behind(order, course):
    """The order behind the rounds of a course."""
    require_order(order)
    upper, lower, _ = follow_course(order, course)
    return Order(tuple(upper), tuple(lower))


def columns(order, course):
    """The dict from each name behind a course to its column, a dict from the names of the order to integers."""
    require_order(order)
    met = _met_behind(order, course)
    return {name: dict(zip(order.names, met[name])) for name in sorted(met)}


def paths(order, course):
    """The dict from each name behind a course to its path, a tuple of names of the order."""
    require_order(order)
    met = _met_behind(order, course)
    if sum([sum(met[name]) for name in met]) > MAX_PATH:
        raise TooMany(MAX_PATH)
    made = {name: [name] for name in order}
    _, _, rows = follow_course(order, course)
    for kind, above, below in rows:
        made[changed_name(above, below, kind)] = [*made[below], *made[above]]
    return {name: tuple(made[name]) for name in sorted(met)}


def lengths_ahead(order, course, lengths):
    """The dict of the lengths of the names of an order that are made of the lengths behind a course."""
    require_order(order)
    met = _met_behind(order, course)
    behind_all = sorted(met)
    if not are_lengths(behind_all, lengths):
        raise InvalidLengths("a dict from just the names behind to numbers above 0 with one root is asked for")
    ahead = {}
    for index, name in enumerate(order.names):
        ahead[name] = Number(0)
        for other in behind_all:
            ahead[name] = ahead[name] + lengths[other] * met[other][index]
    return ahead


def rounded_often(exchange, many):
    """The exchange behind so many rounds, None if the order is not whole ahead of one of them."""
    segment, course = _led_on(exchange, many)
    return segment.as_exchange() if len(course) == many else None


def is_course(value):
    """Whether the value is a course."""
    return isinstance(value, tuple) and len(value) <= MAX_COURSE and all([kind in KINDS for kind in value])


def follow_course(order, course):
    """The rows behind a course, two lists, and the list of (kind, above, below) of its rounds.

    Above and below are the last names of both rows ahead of the round. The errors are those of the course.
    """
    if not is_course(course):
        raise InvalidCourse("a tuple of at most 4000 kinds is asked for")
    upper, lower, rows = list(order.above), list(order.below), []
    is_whole = order.is_whole
    for kind in course:
        if not is_whole:
            raise InvalidCourse("the course does not fit the order")
        rows.append((kind, upper[-1], lower[-1]))
        turn_rows(upper, lower, kind)
        # Rounds of the other kinds keep an order whole.
        is_whole = kind != EVEN or are_whole(upper, lower)
    return (upper, lower, rows)


def _led_on(exchange, many):
    """The pair of the segment of an exchange behind so many rounds, or fewer if there are no more, and their kinds."""
    segment, course = segment_of(exchange, ()), []
    is_whole = exchange.order.is_whole
    while is_whole and len(course) < many:
        kind = segment.round_kind()
        segment.do_round(kind)
        course.append(kind)
        # Rounds of the other kinds keep an order whole.
        is_whole = kind != EVEN or are_whole(segment.upper_row, segment.lower_row)
    return (segment, course)


def _segment_of_whole(exchange):
    """The segment of an exchange whose order must be whole."""
    require_exchange(exchange)
    if not exchange.order.is_whole:
        raise InvalidOperation("the order is not whole")
    return segment_of(exchange, ())


def _met_behind(order, course):
    """The dict from each name behind a course to the tuple of what its column tells of the ascending names."""
    upper, _, rows = follow_course(order, course)
    names = order.names
    met = {name: tuple([int(other == name) for other in names]) for name in names}
    for kind, above, below in rows:
        met[changed_name(above, below, kind)] = added(met[below], met[above])
    return {name: met[name] for name in upper}
