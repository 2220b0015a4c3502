"""Orders: two rows of the same names."""

from math import factorial

from pieceround.base.words import are_names, nth_name, require_count
from pieceround.errors import InvalidOperation, InvalidOrder, UnknownName

MAX_NAMES = 40
MAX_LISTED = 7


class Order:
    """An upper and a lower row of the same names."""

    def __init__(self, upper, lower):
        if not _are_rows(upper, lower):
            raise InvalidOrder("two tuples of the same 1 to 40 different names are asked for")
        self._above = upper
        self._below = lower
        place = {name: index for index, name in enumerate(lower)}
        self._places = tuple([place[name] for name in upper])

    @classmethod
    def read(cls, upper, lower):
        """The order whose rows two strings tell, with single blanks between the names."""
        if not isinstance(upper, str) or not isinstance(lower, str):
            raise InvalidOrder("two strings are asked for")
        # Of a needless blank an empty string is left, which is no name.
        return cls(tuple(upper.split(" ")), tuple(lower.split(" ")))

    @property
    def above(self):
        """The upper row."""
        return self._above

    @property
    def below(self):
        """The lower row."""
        return self._below

    @property
    def names(self):
        """The names, ascending."""
        return tuple(sorted(self._above))

    @property
    def many(self):
        """How many names there are."""
        return len(self._above)

    @property
    def places(self):
        """The index in the lower row for each name of the upper row."""
        return self._places

    @property
    def is_whole(self):
        """Whether there are at least two names and just one block."""
        return len(self._above) >= 2 and len(block_ends(self._places)) == 1

    def blocks(self):
        """The tuple of the blocks from the left, each one an order."""
        ends = block_ends(self._places)
        begins = [0, *ends]
        return tuple([Order(self._above[begin:end], self._below[begin:end]) for begin, end in zip(begins, ends)])

    @property
    def needless(self):
        """The tuple of the pairs of names of which one stands right behind the other in both rows."""
        pairs = []
        for index in range(1, len(self._above)):
            if self._places[index] == self._places[index - 1] + 1:
                pairs.append((self._above[index - 1], self._above[index]))
        return tuple(pairs)

    def inverse(self):
        """The order with upper and lower row exchanged."""
        return Order(self._below, self._above)

    def backwards(self):
        """The order with both rows told from their last name to the first one."""
        return Order(self._above[::-1], self._below[::-1])

    def form(self, one, other):
        """1 if one is ahead of other above and behind it below, -1 the other way round, otherwise 0."""
        for name in (one, other):
            if name not in self._above:
                raise UnknownName(name)
        is_ahead_above = self._above.index(one) < self._above.index(other)
        is_ahead_below = self._below.index(one) < self._below.index(other)
        return int(is_ahead_above) - int(is_ahead_below)

    def renamed(self, names):
        """The order with other names, by a dict from its names to different names."""
        if not _is_renaming(self._above, names):
            raise InvalidOperation("a dict from just the names to different names is asked for")
        upper = tuple([names[name] for name in self._above])
        lower = tuple([names[name] for name in self._below])
        return Order(upper, lower)

    def joined(self):
        """The order without the second name of each needless pair."""
        dropped = [pair[1] for pair in self.needless]
        upper = tuple([name for name in self._above if name not in dropped])
        lower = tuple([name for name in self._below if name not in dropped])
        return Order(upper, lower)

    def __eq__(self, other):
        return isinstance(other, Order) and self._above == other._above and self._below == other._below

    def __len__(self):
        return len(self._above)

    def __contains__(self, value):
        return value in self._above

    def __iter__(self):
        return iter(self._above)

    def __str__(self):
        told = ""
        for name in self._above:
            told = f"{told}{name} "
        told = f"{told}/"
        for name in self._below:
            told = f"{told} {name}"
        return f"{told}"


def require_order(value):
    """Raise InvalidOrder unless the value is an order."""
    if not isinstance(value, Order):
        raise InvalidOrder("an order is asked for")


def each_order(many):
    """The whole orders with so many names, one by one, by ascending places."""
    require_count(many, 2, MAX_LISTED)
    upper = tuple([nth_name(index) for index in range(many)])
    places = tuple(range(many))
    while places:
        order = Order(upper, _row_with(upper, places))
        if order.is_whole:
            yield order
        places = _places_behind(places)


def count_orders(many):
    """The number of the whole orders with so many names, up to their names; 1 for one name."""
    require_count(many, 1, MAX_NAMES)
    counts = []
    for size in range(1, many + 1):
        # All tuples of places, less those whose first block is smaller.
        smaller = [count * factorial(size - block) for block, count in enumerate(counts, start=1)]
        counts.append(factorial(size) - sum(smaller))
    return counts[-1]


def _are_different(names):
    """Whether the value is a tuple of different names."""
    return are_names(names) and len(set(names)) == len(names)


def _are_rows(upper, lower):
    """Whether two values, of any kind, are the rows of an order."""
    if not _are_different(upper) or not are_names(lower):
        return False
    return 1 <= len(upper) <= MAX_NAMES and sorted(upper) == sorted(lower)


def _is_renaming(names, value):
    """Whether the value is a dict from just these names to different names."""
    if not isinstance(value, dict) or len(value) != len(names):
        return False
    return all([name in value for name in names]) and _are_different(tuple(value.values()))


def block_ends(places):
    """The list of the indices behind the last name of each block."""
    ends = []
    furthest = 0
    for index, place in enumerate(places):
        furthest = max(furthest, place)
        if furthest == index:
            ends.append(index + 1)
    return ends


def _row_with(upper, places):
    """The lower row in which the names of the upper row have these places."""
    return tuple([upper[places.index(index)] for index in range(len(places))])


def _places_behind(places):
    """The next tuple of the same numbers in ascending order, () behind the last one."""
    # Behind this index the numbers fall, so nothing greater can be made of them alone.
    pivot = len(places) - 2
    while pivot >= 0 and places[pivot] > places[pivot + 1]:
        pivot -= 1
    if pivot < 0:
        return ()
    greater = min([place for place in places[pivot:] if place > places[pivot]])
    rest = sorted([place for place in places[pivot:] if place != greater])
    return (*places[:pivot], greater, *rest)
