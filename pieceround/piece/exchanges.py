"""Exchanges: orders with a length for each name."""

from pieceround.base.grids import ascending
from pieceround.base.numbers import Number, have_one_root
from pieceround.base.orders import MAX_NAMES, Order, require_order
from pieceround.base.words import new_names, nth_name, require_count
from pieceround.errors import (
    InvalidExchange, InvalidLengths, InvalidNumber, InvalidOperation, InvalidPoint, ParseError, TooMany,
)

MAX_POWERS = 60


class Exchange:
    """An order with a length for each name: it cuts a segment into pieces and lays them down in another order."""

    def __init__(self, order, lengths):
        require_order(order)
        if not are_lengths(order.above, lengths):
            raise InvalidLengths("a dict from just the names to numbers above 0 with one root is asked for")
        self._order = order
        self._above = order.above
        self._below = order.below
        self._lengths = {name: lengths[name] for name in order.names}
        # One after the other in the rows, for the search of a point, and the total behind them.
        self._starts = _sums(self._above, lengths)
        self._starts_below = _sums(self._below, lengths)
        self._total = self._starts[-1]
        self._root = max([number.root for number in list(lengths.values())])
        begins = dict(zip(self._above, self._starts))
        begins_below = dict(zip(self._below, self._starts_below))
        self._begins = {name: begins[name] for name in order.names}
        self._begins_below = {name: begins_below[name] for name in order.names}
        self._shifts = {name: begins_below[name] - begins[name] for name in order.names}

    @classmethod
    def read(cls, upper, lower, *lengths):
        """The exchange with the rows of two strings, and with one text of a length for each name."""
        order = Order.read(upper, lower)
        if len(lengths) != len(order):
            raise InvalidLengths("one text for each name is asked for")
        return cls(order, {name: _read_length(text) for name, text in zip(order, lengths)})

    @property
    def order(self):
        """The order."""
        return self._order

    @property
    def lengths(self):
        """The dict from the names to their lengths."""
        return dict(self._lengths)

    @property
    def total(self):
        """The sum of the lengths."""
        return self._total

    @property
    def root(self):
        """The root of the lengths, 0 if they have none."""
        return self._root

    @property
    def begins(self):
        """The dict from the names to the begins of their pieces."""
        return dict(self._begins)

    @property
    def begins_below(self):
        """The dict from the names to the begins of the images of their pieces."""
        return dict(self._begins_below)

    @property
    def shifts(self):
        """The dict from the names to how far the points of their pieces are led."""
        return dict(self._shifts)

    @property
    def upper_cuts(self):
        """The begins of all names but the first one of the upper row, ascending."""
        return self._starts[1:-1]

    @property
    def lower_cuts(self):
        """The begins below of all names but the first one of the lower row, ascending."""
        return self._starts_below[1:-1]

    def __call__(self, point):
        return point + self._shifts[self.piece_at(point)]

    def back(self, point):
        """The point whose image is the point."""
        require_point(self, point)
        return point - self._shifts[self._below[_index_of_last(self._starts_below, point)]]

    def piece_at(self, point):
        """The name of the piece in which the point lies."""
        require_point(self, point)
        return self._above[_index_of_last(self._starts, point)]

    def inverse(self):
        """The exchange that takes each image back."""
        return Exchange(self._order.inverse(), self._lengths)

    def backwards(self):
        """The exchange with both rows told backwards."""
        return Exchange(self._order.backwards(), self._lengths)

    def scaled(self, number):
        """The exchange with each length multiplied by a number above 0."""
        if not isinstance(number, Number) or number.sign <= 0 or not fits_root(self, number):
            raise InvalidNumber("a number above 0 that has one root with the lengths is asked for")
        return Exchange(self._order, {name: self._lengths[name] * number for name in self._above})

    def __eq__(self, other):
        return isinstance(other, Exchange) and self._order == other._order and self._lengths == other._lengths

    def __len__(self):
        return len(self._above)

    def __contains__(self, value):
        return value in self._above

    def __iter__(self):
        return iter(self._above)

    def __str__(self):
        told = f"{self._order}"
        mark = ": "
        for name in self._above:
            told = f"{told}{mark}{self._lengths[name]}"
            mark = ", "
        return f"{told}"


def are_numbers(names, value):
    """Whether the value is a dict from just these names to numbers that have one root."""
    if not isinstance(value, dict) or len(value) != len(names) or not all([name in value for name in names]):
        return False
    numbers = tuple([value[name] for name in names])
    return all([isinstance(number, Number) for number in numbers]) and have_one_root(numbers)


def are_lengths(names, value):
    """Whether the value is a dict from just these names to numbers above 0 that have one root."""
    return are_numbers(names, value) and all([value[name].sign > 0 for name in names])


def fits_root(one, other):
    """Whether two of exchanges and numbers have one root together."""
    return one.root == 0 or other.root == 0 or one.root == other.root


def is_point(exchange, value):
    """Whether the value is a point of the exchange."""
    if not isinstance(value, Number) or not fits_root(exchange, value):
        return False
    return value.sign >= 0 and value.compared(exchange.total) < 0


def require_exchange(value):
    """Raise InvalidExchange unless the value is an exchange."""
    if not isinstance(value, Exchange):
        raise InvalidExchange("an exchange is asked for")


def require_point(exchange, value):
    """Raise InvalidPoint unless the value is a point of the exchange."""
    if not is_point(exchange, value):
        raise InvalidPoint("a point of the exchange is asked for")


def exchange_of(starts, images, total):
    """The exchange whose pieces begin at these ascending numbers and are led to these images.

    Its names are those of nth_name, from the left.
    """
    names = tuple([nth_name(index) for index in range(len(starts))])
    lengths = {name: end - start for name, start, end in zip(names, starts, [*starts[1:], total])}
    return Exchange(Order(names, tuple([names[index] for index in ascending(images)])), lengths)


def cut_at(exchange, points):
    """The exchange that takes each point to the same place, with these points among its begins."""
    require_exchange(exchange)
    if not _are_points(exchange, points):
        raise InvalidPoint("a tuple of points that have one root with the lengths is asked for")
    starts, parts = exchange.begins, {name: [name] for name in exchange}
    cuts = _different([point for point in points if point != starts[exchange.piece_at(point)]])
    if len(exchange) + len(cuts) > MAX_NAMES:
        raise TooMany(MAX_NAMES)
    names = new_names(exchange.order.above, len(cuts))
    for name, index in zip(names, ascending(cuts)):
        starts[name] = cuts[index]
        parts[exchange.piece_at(cuts[index])].append(name)
    upper = tuple([part for name in exchange.order.above for part in parts[name]])
    lower = tuple([part for name in exchange.order.below for part in parts[name]])
    ends = [*[starts[name] for name in upper[1:]], exchange.total]
    return Exchange(Order(upper, lower), {name: end - starts[name] for name, end in zip(upper, ends)})


def joined(exchange):
    """The exchange with the joined order, which takes each point to the same place."""
    require_exchange(exchange)
    order, told, lengths = exchange.order.joined(), exchange.lengths, {}
    head = ""
    for name in exchange:
        if name in order:
            head = name
            lengths[head] = told[name]
        else:
            # What is dropped stands right behind what it is joined to.
            lengths[head] = lengths[head] + told[name]
    return Exchange(order, lengths)


def are_same(one, other):
    """Whether both exchanges have the same total and take each point to the same place."""
    require_exchange(one)
    require_exchange(other)
    first, second = joined(one), joined(other)
    if first.order.places != second.order.places:
        return False
    pairs = list(zip(first, second))
    lengths, others = first.lengths, second.lengths
    return all([lengths[name] == others[mate] for name, mate in pairs])


def behind(one, other):
    """The exchange that does one exchange and then the other one."""
    require_exchange(one)
    require_exchange(other)
    if one.total != other.total or not fits_root(one, other):
        raise InvalidOperation("two exchanges with one total and one root are asked for")
    return _composed(one, other)


def powers(exchange, many):
    """The tuple of the exchanges that are the exchange done once, twice, up to so many times."""
    require_exchange(exchange)
    require_count(many, 1, MAX_POWERS)
    # Put behind the exchange, the one that leaves each point where it is gives it its new names.
    rest = exchange_of([Number(0)], [Number(0)], exchange.total)
    made = [_composed(exchange, rest)]
    while len(made) < many:
        made.append(_composed(made[-1], exchange))
    return tuple(made)


def _composed(one, other):
    """The exchange that does one exchange and then the other one, which fits it."""
    cuts = _different([*one.upper_cuts, *[one.back(cut) for cut in other.upper_cuts]])
    starts, images = [], []
    for start in [Number(0), *[cuts[index] for index in ascending(cuts)]]:
        image = other(one(start))
        # Neighbours with one shift are one piece.
        if not starts or image - start != images[-1] - starts[-1]:
            starts.append(start)
            images.append(image)
    if len(starts) > MAX_NAMES:
        raise TooMany(MAX_NAMES)
    return exchange_of(starts, images, one.total)


def _sums(names, lengths):
    """The tuple of the sums of the lengths of the first 0, 1, 2 .. of these names."""
    sums = [Number(0)]
    for name in names:
        sums.append(sums[-1] + lengths[name])
    return tuple(sums)


def _read_length(text):
    """The number with this text."""
    try:
        return Number.read(text)
    except ParseError:
        raise InvalidLengths("the texts of lengths are asked for") from None


def _index_of_last(starts, point):
    """The index of the last of the ascending starts that is not above the point, the first one being 0."""
    low, high = 0, len(starts) - 1
    while high - low > 1:
        middle = (low + high) // 2
        if starts[middle].compared(point) > 0:
            high = middle
        else:
            low = middle
    return low


def _are_points(exchange, value):
    """Whether the value is a tuple of points that have one root together with the lengths."""
    if not isinstance(value, tuple) or not all([is_point(exchange, point) for point in value]):
        return False
    # Each of them has one root with the lengths; without a root there, they can still have several.
    return have_one_root(value)


def _different(numbers):
    """The list of the numbers, each one once."""
    kept = {(number.top, number.part, number.root, number.bottom): number for number in numbers}
    return list(kept.values())
