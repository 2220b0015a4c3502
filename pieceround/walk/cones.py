"""Cones: the lengths of an order that have a course, or for which traces come."""

from pieceround.base.orders import require_order
from pieceround.errors import InvalidCourse, InvalidTrace, TooMany
from pieceround.rounds.rounds import follow_course, is_course
from pieceround.rounds.rows import LOWER, UPPER, added
from pieceround.walk.sides import Cone, as_lengths, is_bar_of_bands, minus, sums_of

MAX_CONE = 6
MAX_LETTERS = 14


def has_course(order, course):
    """Whether some lengths of an order have a course."""
    require_order(order)
    if not is_course(course):
        raise InvalidCourse("a tuple of at most 4000 kinds is asked for")
    try:
        follow_course(order, course)
    except InvalidCourse:
        return False
    return True


def lengths_with(order, course):
    """Lengths of an order that have a course."""
    require_order(order)
    _, _, rows = follow_course(order, course)
    # Behind the course all are 1. A name that an even round takes away gets its length where this is undone.
    lengths = {name: 1 for name in order.names}
    for kind, above, below in rows[::-1]:
        if kind == UPPER:
            lengths[above] = lengths[above] + lengths[below]
        elif kind == LOWER:
            lengths[below] = lengths[below] + lengths[above]
        else:
            lengths[above] = lengths[below]
    return as_lengths(order.names, list(lengths.values()))


def trace_for_some(order, trace):
    """Lengths of an order for which some point has a trace, None if there are none."""
    require_order(order)
    if not _are_letters(order, trace) or len(trace) > MAX_LETTERS:
        raise InvalidTrace("a tuple of 1 to 14 names of the order is asked for")
    _require_few(order)
    return _lengths_for(order, (trace,))


def traces_together(order, traces):
    """Lengths of an order for which each of some traces is that of a point, None if there are none."""
    _require_traces(order, traces)
    return _lengths_for(order, traces)


def bar_of(order, traces):
    """A bar of some traces, None if there is none."""
    _require_traces(order, traces)
    return _cone_of(order, traces).settle()


def is_bar(order, traces, value):
    """Whether the value is a bar of some traces."""
    _require_traces(order, traces)
    return isinstance(value, tuple) and is_bar_of_bands(_cone_of(order, traces).bands, value)


def _are_letters(order, value):
    """Whether the value is a tuple of names of the order, at least one."""
    return isinstance(value, tuple) and len(value) > 0 and all([name in order for name in value])


def _require_traces(order, value):
    """Raise the error of the first of both that is not right."""
    require_order(order)
    if not isinstance(value, tuple) or len(value) == 0 or not all([_are_letters(order, trace) for trace in value]):
        raise InvalidTrace("a tuple of traces, at least one, is asked for")
    if sum([len(trace) for trace in value]) > MAX_LETTERS:
        raise InvalidTrace("at most 14 letters are asked for")
    _require_few(order)


def _require_few(order):
    """Raise TooMany if an order has more names than lengths are told for."""
    if len(order) > MAX_CONE:
        raise TooMany(MAX_CONE)


def _lengths_for(order, traces):
    """Lengths for which all traces come, None if there are none."""
    cone = _cone_of(order, traces)
    if cone.settle() is not None:
        return None
    return as_lengths(order.names, cone.inside)


def _cone_of(order, traces):
    """The cone with the letters of some traces, a band for each."""
    table, cone = sums_of(order), Cone(len(order), len(traces))
    for index, letters in enumerate(traces):
        shifted = (0,) * len(order)
        for name in letters:
            begin, end, shift = table[name]
            cone.put_letter(index, minus(begin, shifted), minus(end, shifted))
            shifted = added(shifted, shift)
    return cone
