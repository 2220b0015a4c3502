"""Surfaces: the corners, the form and the parity of an order."""

from pieceround.base.orders import require_order
from pieceround.glue.frames import Crossings


def corner_walk(order):
    """The tuple of the ends to which the corner walk leads from 0, 1, 2 .. on."""
    require_order(order)
    row = order.places
    many = len(row)
    # The number of the name with each place.
    at = [0] * many
    for index, place in enumerate(row):
        at[place] = index + 1
    walk = [at[0] - 1]
    for place in row:
        walk.append(many if place == many - 1 else at[place + 1] - 1)
    return tuple(walk)


def corners(order):
    """The ascending tuple of the rounds of the corner walk, each of which begins with its least end."""
    walk = corner_walk(order)
    found, is_met = [], [False] * len(walk)
    for least in range(len(walk)):
        row, end = [], least
        while not is_met[end]:
            is_met[end] = True
            row.append(end)
            end = walk[end]
        if row:
            found.append(tuple(row))
    return tuple(found)


def angles(order):
    """The tuple of the angles of all corners, from the least one on."""
    return tuple(sorted([_angle(corner, len(order)) for corner in corners(order)]))


def left_angle(order):
    """The angle of the corner with the left end of the segment."""
    return _angle(corners(order)[0], len(order))


def genus(order):
    """How many pairs of sets each frame has."""
    found = corners(order)
    return (len(order) - len(found) + 1) // 2


def form_rank(order):
    """The rank of the matrix of the form, which is twice the genus."""
    return 2 * genus(order)


def parity(order):
    """1 if more sets of names have an even size than an odd one, -1 if fewer have, 0 if as many have."""
    require_order(order)
    crossings = Crossings(order.places)
    pairs, rest = crossings.frame()
    # Sets that meet evenly have, together, the sum of their sizes; so each frame tells the parity.
    if any([crossings.is_odd_size(names) for names in rest]):
        return 0
    odd = [one for one, other in pairs if crossings.is_odd_size(one) and crossings.is_odd_size(other)]
    return 1 if len(odd) % 2 == 0 else -1


def frame_of(order):
    """A frame of an order."""
    require_order(order)
    pairs, rest = Crossings(order.places).frame()
    told = tuple([(_names_of(order, one), _names_of(order, other)) for one, other in pairs])
    return (told, tuple([_names_of(order, names) for names in rest]))


def is_frame(order, value):
    """Whether the value is a frame of an order."""
    require_order(order)
    if not isinstance(value, tuple) or len(value) != 2 or not all([isinstance(part, tuple) for part in value]):
        return False
    pairs, rest = value
    if not all([isinstance(pair, tuple) and len(pair) == 2 for pair in pairs]):
        return False
    sets = [*[one for pair in pairs for one in pair], *rest]
    if not all([_is_set(order, names) for names in sets]):
        return False
    told = [(_bits_of(order, one), _bits_of(order, other)) for one, other in pairs]
    return Crossings(order.places).are_frame(told, [_bits_of(order, names) for names in rest])


def marks(order):
    """The triple of the angles, the left angle and the parity of an order."""
    return (angles(order), left_angle(order), parity(order))


def are_marked_alike(one, other):
    """Whether two orders have as many names and equal marks."""
    require_order(one)
    require_order(other)
    return len(one) == len(other) and marks(one) == marks(other)


def _angle(corner, many):
    """How many of the ends of a corner lie between two names, of so many."""
    return len([end for end in corner if 1 <= end <= many - 1])


def _names_of(order, bits):
    """The ascending tuple of the names of a set."""
    return tuple(sorted([name for index, name in enumerate(order.above) if bits >> index & 1]))


def _bits_of(order, names):
    """The set of some names."""
    return sum([1 << order.above.index(name) for name in names])


def _is_set(order, value):
    """Whether the value is an ascending tuple of names of the order, not empty."""
    if not isinstance(value, tuple) or len(value) == 0 or not all([name in order for name in value]):
        return False
    return all([value[index] < value[index + 1] for index in range(len(value) - 1)])
