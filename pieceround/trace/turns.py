"""What follows traces and leads them, how their points come back, and which are read both ways."""

from pieceround.base.grids import ascending
from pieceround.base.orders import require_order
from pieceround.base.words import require_count
from pieceround.errors import InvalidOperation, InvalidTrace, TooMany
from pieceround.piece.exchanges import require_exchange
from pieceround.trace.traces import are_letters, traces_of_letters
from pieceround.way.steps import Steps

MAX_LETTERS = 40
MAX_RETURN = 4000


def branchings(exchange, many, *, ahead=False):
    """The tuple of the pairs of a trace that several names follow, or lead, and the tuple of these names."""
    require_exchange(exchange)
    require_count(many, 1, MAX_LETTERS)
    if ahead is not True and ahead is not False:
        raise InvalidOperation("True or False is asked for")
    found = _names_ahead(exchange, many) if ahead else _names_behind(exchange, many)
    return tuple([(names, found[names]) for names in found if len(found[names]) > 1])


def traces_graph(exchange, many):
    """The dict from each trace to the tuple of those to which its points are led."""
    require_exchange(exchange)
    require_count(many, 1, MAX_LETTERS)
    found = _names_behind(exchange, many)
    return {names: tuple([(*names[1:], name) for name in found[names]]) for names in sorted(found)}


def return_traces(exchange, trace):
    """The tuple of the return traces of a trace, in the order of their intervals."""
    require_exchange(exchange)
    if not are_letters(exchange, trace) or trace == ():
        raise InvalidTrace("a tuple of 1 to 4000 names of the exchange is asked for")
    steps = Steps(exchange, ())
    ends = steps.stretch_of_letters(trace)
    if ends is None:
        raise InvalidTrace("the trace of some point is asked for")
    found = steps.returns(ends[0], ends[1], MAX_RETURN)
    if found is None or sum([time for _, _, _, time in found]) > MAX_RETURN:
        raise TooMany(MAX_RETURN)
    rows = ascending([steps.grid.number(low) for low, _, _, _ in found])
    return tuple([steps.letters(found[index][0], found[index][3]) for index in rows])


def is_reversed(order):
    """Whether the lower row is the upper row read backwards."""
    require_order(order)
    return order.below == order.above[::-1]


def palindromes(exchange, many):
    """The tuple of the traces of so many letters that are the same read backwards."""
    require_exchange(exchange)
    require_count(many, 1, MAX_LETTERS)
    return tuple([names for names in traces_of_letters(exchange, many) if names == names[::-1]])


def _names_behind(exchange, many):
    """The dict from each trace to the tuple of the names that follow it, in the order of the traces."""
    longer = traces_of_letters(exchange, many + 1)
    return _by_trace(exchange, many, [(names[:-1], names[-1]) for names in longer])


def _names_ahead(exchange, many):
    """The dict from each trace to the tuple of the names that lead it, in the order of the traces."""
    longer = traces_of_letters(exchange, many + 1)
    return _by_trace(exchange, many, [(names[1:], names[0]) for names in longer])


def _by_trace(exchange, many, pairs):
    """The dict from each trace to the tuple of the names that are paired with it, in the order of the upper row."""
    row = exchange.order.above
    paired = {names: [] for names in traces_of_letters(exchange, many)}
    for trace, name in pairs:
        paired[trace].append(row.index(name))
    return {names: tuple([row[index] for index in sorted(paired[names])]) for names in paired}
