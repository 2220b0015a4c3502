"""Wedges of exchanges: what all rounds keep."""

from pieceround.base.numbers import Number
from pieceround.base.words import require_count
from pieceround.errors import InvalidReading
from pieceround.piece.exchanges import Exchange, require_exchange
from pieceround.rounds.parts import MAX_ROUNDS, CyclePart, LoopPart, reading_of
from pieceround.rounds.readings import has_loop


def wedge(exchange):
    """The wedge of an exchange, a number without a root."""
    require_exchange(exchange)
    lengths, shifts = exchange.lengths, exchange.shifts
    total = Number(0)
    for name in exchange:
        # In the product of x - y r and u + v r just x v - y u is multiplied by r.
        total = total + lengths[name].mirror * shifts[name]
    return Number(total.part, bottom=total.bottom)


def wedge_of_part(part):
    """The wedge of a part, a number without a root."""
    if isinstance(part, LoopPart):
        return wedge(Exchange(part.order, part.lengths))
    if not isinstance(part, CyclePart):
        raise InvalidReading("a part is asked for")
    return Number(0)


def comes_round(exchange, *, most=1000):
    """Whether each point comes back to itself."""
    require_exchange(exchange)
    require_count(most, 1, MAX_ROUNDS)
    if exchange.root == 0:
        return True
    if wedge(exchange).sign != 0:
        return False
    return not has_loop(reading_of(exchange, most=most))
