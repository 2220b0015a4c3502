"""Walks: courses without even rounds, and the classes of places that they join."""

from pieceround.base.orders import MAX_NAMES, Order, block_ends
from pieceround.base.words import is_any_integer, require_count
from pieceround.errors import InvalidCourse, InvalidOrder, TooMany
from pieceround.rounds.rounds import follow_course, is_course
from pieceround.rounds.rows import EVEN, LOWER, UPPER

MAX_WALKED = 7


def moved(places, kind):
    """The places to which a round of this kind leads."""
    if not _are_whole_places(places):
        raise InvalidOrder("the places of a whole order are asked for")
    if kind != UPPER and kind != LOWER:
        raise InvalidCourse("upper or lower is asked for")
    return _led(places, kind)


def class_of(order):
    """The ascending tuple of all places to which walks lead from a whole order."""
    require_whole(order)
    _require_few(order)
    return tuple(sorted(list(_reached(order.places, None))))


def are_joined(one, other):
    """Whether a walk leads one order to the places of the other one."""
    return walk_between(one, other) is not None


def walk_between(one, other):
    """A walk, with as few rounds as there can be, that leads one order to the places of the other one, or None."""
    require_whole(one)
    require_whole(other)
    _require_few(one)
    _require_few(other)
    goal = other.places
    known = _reached(one.places, goal)
    if goal not in known:
        return None
    kinds = []
    while known[goal] is not None:
        goal, kind = known[goal]
        kinds.append(kind)
    return tuple(kinds[::-1])


def is_walk(one, other, value):
    """Whether the value is a walk that leads one order to the places of the other one."""
    require_whole(one)
    require_whole(other)
    return _is_any_walk(value) and _order_behind(one, value).places == other.places


def is_closed(many, value):
    """Whether the value is an ascending tuple of places with so many names among which both kinds lead."""
    require_count(many, 2, MAX_WALKED)
    if not isinstance(value, tuple) or len(value) == 0:
        return False
    if not all([_are_whole_places(places) and len(places) == many for places in value]):
        return False
    if any([value[index] >= value[index + 1] for index in range(len(value) - 1)]):
        return False
    known = {places: True for places in value}
    return all([_led(places, kind) in known for places in value for kind in (LOWER, UPPER)])


def renaming_of(order, course):
    """The dict from the names of an order to those that a walk puts where they were, None if it changes the places."""
    require_whole(order)
    if not _is_any_walk(course):
        raise InvalidCourse("a walk is asked for")
    behind = _order_behind(order, course)
    if behind.places != order.places:
        return None
    renaming = dict(zip(order.above, behind.above))
    return {name: renaming[name] for name in order.names}


def require_whole(order):
    """Raise InvalidOrder unless the value is a whole order."""
    if not isinstance(order, Order) or not order.is_whole:
        raise InvalidOrder("a whole order is asked for")


def _require_few(order):
    """Raise TooMany if an order has more names than classes are told for."""
    if len(order) > MAX_WALKED:
        raise TooMany(MAX_WALKED)


def _are_whole_places(value):
    """Whether the value is the tuple of the places of a whole order."""
    if not isinstance(value, tuple) or not 2 <= len(value) <= MAX_NAMES:
        return False
    if not all([is_any_integer(place) for place in value]) or sorted(value) != list(range(len(value))):
        return False
    return len(block_ends(value)) == 1


def _is_any_walk(value):
    """Whether the value is a walk, of whatever whole order."""
    return is_course(value) and EVEN not in value


def _order_behind(order, course):
    """The order behind a walk."""
    upper, lower, _ = follow_course(order, course)
    return Order(tuple(upper), tuple(lower))


def _led(places, kind):
    """The places to which a round of this kind leads the places of a whole order."""
    last, greatest = places[-1], len(places) - 1
    if kind == UPPER:
        row = [place if place <= last else place + 1 for place in places]
        row[places.index(greatest)] = last + 1
        return tuple(row)
    behind = places.index(greatest) + 1
    return (*places[:behind], last, *places[behind:-1])


def _reached(places, goal):
    """The dict from all places to which walks lead to the pair of the places and the kind one round before, or None.

    They come in by how many rounds they need. The search ends where the goal is reached, if there is one.
    """
    known = {places: None}
    row, done = [places], 0
    while done < len(row) and goal not in known:
        ahead = row[done]
        done += 1
        for kind in (LOWER, UPPER):
            led = _led(ahead, kind)
            if led not in known:
                known[led] = (ahead, kind)
                row.append(led)
    return known
