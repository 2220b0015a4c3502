"""Loops: courses that lead an order to itself."""

from math import isqrt

from pieceround.base.numbers import MAX_ROOT, Number
from pieceround.base.orders import require_order
from pieceround.base.words import require_count
from pieceround.errors import InvalidOperation, TooMany
from pieceround.piece.exchanges import Exchange
from pieceround.rounds.rounds import columns, follow_course
from pieceround.rounds.rows import EVEN, LOWER, UPPER, turn_rows, turn_rows_back

MAX_LOOP = 24
MAX_LOOP_NAMES = 8

MAX_LISTED_LOOP = 12


def is_winner_of_all(order, course):
    """Whether each name of a whole order wins at some round of a course without even rounds."""
    require_order(order)
    _, _, rows = follow_course(order, course)
    if not order.is_whole or EVEN in course:
        raise InvalidOperation("a whole order and a course without even rounds are asked for")
    return _are_winners(order, rows)


def is_loop(order, course):
    """Whether a course is a loop of an order."""
    require_order(order)
    upper, lower, rows = follow_course(order, course)
    # An even round takes a name away for good, and no round, which fits each order, has no winner.
    return tuple(upper) == order.above and tuple(lower) == order.below and _are_winners(order, rows)


def loop_share(order, course):
    """The share of a loop, None if it is not of one root."""
    _, share = _solved(order, course)
    return share


def loop_exchange(order, course):
    """The exchange of a loop with the length 1 for the first name of the upper row, None if it is not of one root."""
    exchange, _ = _solved(order, course)
    return exchange


def loops_of(order, many):
    """The loops of a whole order with just so many rounds, one by one, ascending."""
    require_order(order)
    require_count(many, 1, MAX_LISTED_LOOP)
    if not order.is_whole:
        raise InvalidOperation("the order is not whole")
    # Each loop is a head, told ahead from the order, and a tail, told back from it, with the same rows between them.
    half = many // 2
    tails, everyone = _tails(order, many - half), (1 << len(order)) - 1
    fitting = {}
    for head, rows, winners in _heads(order, half):
        key = (rows, winners)
        if key not in fitting:
            fitting[key] = [tail for tail, others in tails.get(rows, ()) if winners | others == everyone]
        for tail in fitting[key]:
            yield head + tail


def _are_winners(order, rows):
    """Whether each name of an order wins at some of these rounds."""
    winners = [above if kind == UPPER else below for kind, above, below in rows]
    return all([name in winners for name in order])


def _heads(order, many):
    """The list of (course, rows behind it, winners) for all courses of so many rounds without even ones, ascending.

    The winners are told by an integer that has, for each of them, the bit of the name's index in the upper row.
    """
    heads = [((), (order.above, order.below), 0)]
    for _ in range(many):
        heads = [_longer_head(order, head, kind) for head in heads for kind in (LOWER, UPPER)]
    return heads


def _longer_head(order, head, kind):
    """The head with one round more behind it."""
    course, rows, winners = head
    upper, lower = list(rows[0]), list(rows[1])
    winner = _winner(rows, kind)
    turn_rows(upper, lower, kind)
    return ((*course, kind), (tuple(upper), tuple(lower)), winners | 1 << order.above.index(winner))


def _tails(order, many):
    """The dict from rows to the list of (course, winners) of the courses, so many rounds long, from them to the order.

    The courses are ascending, and have no even rounds; winners are told as in heads.
    """
    tails = [((), (order.above, order.below), 0)]
    for _ in range(many):
        tails = [_longer_tail(order, tail, kind) for kind in (LOWER, UPPER) for tail in tails]
    found = {}
    for course, rows, winners in tails:
        found.setdefault(rows, []).append((course, winners))
    return found


def _longer_tail(order, tail, kind):
    """The tail with one round more ahead of it."""
    course, rows, winners = tail
    upper, lower = list(rows[0]), list(rows[1])
    turn_rows_back(upper, lower, kind)
    # A winner stays the last name of its row.
    winner = _winner(rows, kind)
    return ((kind, *course), (tuple(upper), tuple(lower)), winners | 1 << order.above.index(winner))


def _winner(rows, kind):
    """The winner of a round of this kind, not even, by the rows ahead of it or behind it."""
    return rows[0][-1] if kind == UPPER else rows[1][-1]


def _solved(order, course):
    """The pair of the exchange and the share of a loop, (None, None) if it is not of one root."""
    if not is_loop(order, course):
        raise InvalidOperation("the course is no loop of the order")
    if len(order) > MAX_LOOP_NAMES:
        raise TooMany(MAX_LOOP_NAMES)
    if len(course) > MAX_LOOP:
        raise TooMany(MAX_LOOP)
    told = columns(order, course)
    # The lengths ahead of the loop are these rows times the lengths behind it.
    rows = [[told[other][name] for other in order] for name in order]
    share = _share_with(_whole_sum(rows))
    lengths = None if share is None else _solution(rows, share)
    if lengths is None:
        return (None, None)
    return (Exchange(order, dict(zip(order, lengths))), share)


def _whole_sum(rows):
    """The only integer that the sum of the share and 1 divided by it can be, None if it can be none."""
    vector = [1] * len(rows)
    while True:
        image = [sum([factor * value for factor, value in zip(row, vector)]) for row in rows]
        # The share lies between the least and the greatest quotient of both: the sum lies between those of these.
        sums = [(new * new + old * old, new * old) for new, old in zip(image, vector)]
        least = min([-(-top // bottom) for top, bottom in sums])
        greatest = max([top // bottom for top, bottom in sums])
        if least >= greatest:
            return least if least == greatest else None
        vector = image


def _share_with(whole):
    """The number above 1 that has this sum with 1 divided by it, None if there is none with a root of at most 999."""
    if whole is None:
        return None
    square = whole * whole - 4
    for root in range(2, MAX_ROOT + 1):
        # The first one that leaves a square has no square in it.
        part = isqrt(square // root)
        if part > 0 and part * part * root == square:
            return Number(whole, part, root=root, bottom=2)
    return None


def _solution(rows, share):
    """The list of numbers above 0, the first one 1, that the rows multiply by the share, None if there is none."""
    many = len(rows)
    left = [[Number(whole) for whole in row] for row in rows]
    for index in range(many):
        left[index][index] = left[index][index] - share
    for pivot in range(1, many):
        # For the greatest number that has such a solution, which alone has one above 0, no pivot is 0.
        if left[pivot][pivot].sign == 0:
            return None
        used = [value.over(left[pivot][pivot]) for value in left[pivot]]
        for index in range(many):
            factor = left[index][pivot]
            left[index] = used if index == pivot else [old - new * factor for old, new in zip(left[index], used)]
    lengths = [Number(1), *[-row[0] for row in left[1:]]]
    if left[0][0].sign != 0 or any([length.sign <= 0 for length in lengths]):
        return None
    return lengths
