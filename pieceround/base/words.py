"""Integers, names, and the bounds that both keep."""

from pieceround.errors import InvalidCount, InvalidOperation

MAX_LETTERS = 8
MAX_FIGURES = 60

LETTERS = "abcdefghijklmnopqrstuvwxyz"
LAST_INDEX = 701
MAX_KNOWN = 200
MAX_NEW = 100


def is_any_integer(value):
    """Whether the value is an integer, however long."""
    return isinstance(value, int) and not isinstance(value, bool)


def is_integer(value):
    """Whether the value is an integer of at most MAX_FIGURES digits."""
    # The power is written out: comparing is quick for integers of any length, and telling digits is not.
    return is_any_integer(value) and abs(value) < 10 ** 60


def is_count(value):
    """Whether the value is such an integer, from 0 on."""
    return is_integer(value) and value >= 0


def is_name(value):
    """Whether the value is a string of one to eight letters a to z."""
    if not isinstance(value, str) or not 1 <= len(value) <= MAX_LETTERS:
        return False
    return all([letter in LETTERS for letter in value])


def are_names(value):
    """Whether the value is a tuple of names, which can come twice."""
    return isinstance(value, tuple) and all([is_name(name) for name in value])


def require_count(value, least, most):
    """Raise InvalidCount unless the value is an integer from least to most."""
    if not is_integer(value) or not least <= value <= most:
        raise InvalidCount(value)


def nth_name(index):
    """The name with this index among a to z and then aa to zz."""
    require_count(index, 0, LAST_INDEX)
    if index < len(LETTERS):
        return LETTERS[index]
    first, last = divmod(index - len(LETTERS), len(LETTERS))
    return LETTERS[first] + LETTERS[last]


def new_names(names, many):
    """The tuple of the first names, so many, that are not in names."""
    if not are_names(names) or len(names) > MAX_KNOWN:
        raise InvalidOperation("a tuple of at most 200 names is asked for")
    require_count(many, 0, MAX_NEW)
    # At most as many names are passed over as are told, so these are enough.
    candidates = [nth_name(index) for index in range(len(names) + many)]
    return tuple([name for name in candidates if name not in names][:many])
