"""Traces: the names of the pieces in which the points of a way lie."""

from pieceround.base.grids import ascending, minus, plus
from pieceround.base.words import require_count
from pieceround.errors import InvalidTrace
from pieceround.piece.exchanges import require_exchange, require_point
from pieceround.way.steps import Steps

MAX_LISTED = 40
MAX_STEPS = 1000
MAX_TRACE = 4000


def trace(exchange, point, many):
    """The trace of so many letters of a point."""
    require_exchange(exchange)
    require_point(exchange, point)
    require_count(many, 0, MAX_TRACE)
    steps = Steps(exchange, (point,))
    return steps.letters(steps.grid.pair(point), many)


def stretch_of(exchange, trace):
    """The pair of both ends of the stretch of a trace, None if it does not come."""
    require_exchange(exchange)
    if not are_letters(exchange, trace):
        raise InvalidTrace("a tuple of at most 4000 names of the exchange is asked for")
    steps = Steps(exchange, ())
    ends = steps.stretch_of_letters(trace)
    return None if ends is None else (steps.grid.number(ends[0]), steps.grid.number(ends[1]))


def traces(exchange, many):
    """The tuple of all traces of so many letters, in the order of their stretches."""
    require_exchange(exchange)
    require_count(many, 0, MAX_LISTED)
    return traces_of_letters(exchange, many)


def count_traces(exchange, many):
    """How many traces of so many letters come."""
    require_exchange(exchange)
    require_count(many, 0, MAX_STEPS)
    found = _connections(exchange, many)
    return 1 + sum([many if found[name] is None else found[name] + 1 for name in found])


def connections(exchange, many):
    """The dict from the names of all upper cuts to their connections, None for those that are not less than many."""
    require_exchange(exchange)
    require_count(many, 0, MAX_STEPS)
    return _connections(exchange, many)


def stretch_lengths(exchange, many):
    """The ascending tuple of the different lengths of the stretches of all traces of so many letters."""
    require_exchange(exchange)
    require_count(many, 0, MAX_LISTED)
    steps = Steps(exchange, ())
    kept = {minus(high, low): True for _, low, high in _stretches(steps, many)}
    lengths = [steps.grid.number(pair) for pair in kept]
    return tuple([lengths[index] for index in ascending(lengths)])


def are_letters(exchange, value):
    """Whether the value is a tuple of at most 4000 names of the exchange."""
    return isinstance(value, tuple) and len(value) <= MAX_TRACE and all([name in exchange for name in value])


def traces_of_letters(exchange, many):
    """The tuple of all traces of so many letters, in the order of their stretches, however many there are."""
    return tuple([names for names, _, _ in _stretches(Steps(exchange, ()), many)])


def _stretches(steps, many):
    """The list of (trace, low, high) for all traces of so many letters, with where the steps lead their stretches."""
    rows = [((), *steps.whole())]
    for _ in range(many):
        longer = []
        for names, first, last in list(rows):
            for index, low, high in steps.stretches_in(first, last):
                move = steps.moves[index]
                longer.append(((*names, steps.row[index]), plus(low, move), plus(high, move)))
        rows = longer
    return rows


def _connections(exchange, many):
    """The dict from the names of all upper cuts to their connections below many, None for all others."""
    # One step back is one of the inverse, whose upper cuts are the lower cuts.
    back = Steps(exchange.inverse(), ())
    begins = exchange.begins
    cut_names = exchange.order.above[1:]
    return {name: _steps_to_cut(back, back.grid.pair(begins[name]), many) for name in sorted(cut_names)}


def _steps_to_cut(steps, place, many):
    """The least number of steps, below many, that lead a place to an upper cut, None if there is none."""
    for count in range(many):
        index = steps.index_at(place)
        if index > 0 and place == steps.starts[index]:
            return count
        place = plus(place, steps.moves[index])
    return None
