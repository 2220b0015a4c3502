"""What a round does with the rows of an order."""

from pieceround.base.orders import Order

UPPER = "upper"
LOWER = "lower"
EVEN = "even"


def are_whole(upper, lower):
    """Whether two rows of names make a whole order."""
    return Order(tuple(upper), tuple(lower)).is_whole


def turn_rows(upper, lower, kind):
    """Change two lists of names, the rows of a whole order, by a round of this kind."""
    above, below = upper[-1], lower[-1]
    if kind == UPPER:
        lower.pop()
        lower.insert(lower.index(above) + 1, below)
    elif kind == LOWER:
        upper.pop()
        upper.insert(upper.index(below) + 1, above)
    else:
        upper.pop()
        lower.pop()
        lower[lower.index(above)] = below


def turn_rows_back(upper, lower, kind):
    """Change two lists of names back to those from which a round of this kind, not even, leads to them."""
    if kind == UPPER:
        lower.append(lower.pop(lower.index(upper[-1]) + 1))
    else:
        upper.append(upper.pop(upper.index(lower[-1]) + 1))


def changed_name(above, below, kind):
    """Of the last names of both rows the one whose path becomes, by a round, that of below and then that of above."""
    return above if kind == LOWER else below


def added(one, other):
    """The tuple of the sums of two tuples of integers, index by index."""
    return tuple([first + second for first, second in zip(one, other)])
