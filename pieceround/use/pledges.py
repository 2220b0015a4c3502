"""What the pledges of a bench say of an exchange."""

from pieceround.glue.surfaces import marks
from pieceround.piece.exchanges import is_point
from pieceround.same.wedges import wedge
from pieceround.trace.traces import stretch_of

WHOLE = "whole"
NAMES = "names"
TOTAL = "total"
WEDGE = "wedge"
AT = "at"
TRACE = "trace"
MARKS = "marks"


def holds(exchange, pledge):
    """Whether an exchange keeps a pledge."""
    word, told = pledge[0], pledge[1:]
    if word == WHOLE:
        return exchange.order.is_whole
    if word == NAMES:
        return len(exchange) <= told[0]
    if word == TOTAL:
        return exchange.total == told[0]
    if word == WEDGE:
        return wedge(exchange) == told[0]
    if word == AT:
        return is_point(exchange, told[0]) and exchange(told[0]) == told[1]
    if word == TRACE:
        return all([name in exchange for name in told[0]]) and stretch_of(exchange, told[0]) is not None
    return exchange.order.is_whole and marks(exchange.order) == told[0]
