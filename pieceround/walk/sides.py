"""Sums of lengths that are to be above 0 all at once, and the cone of the lengths for which they are.

A sum of lengths is told by its factors, a tuple that has for each of the ascending names of an order the integer by
which the length of the name is multiplied. A band is a pair of two lists of such sums, the lows and the highs of the
letters of a trace or a word: the letters come for the lengths for which each low is below each high.
"""

from pieceround.base.numbers import Number
from pieceround.base.words import is_integer
from pieceround.rounds.rows import added


class Cone:
    """Lengths for which as many sums as there are names, its sides, are above 0; each side has a ray.

    Of a side, its own ray makes the sum measure, and the rays of all others make it 0. A side keeps as its label the
    row (index, i, j) of a band, a high and a low of it; the sides with which a cone begins are the lengths themselves,
    and have None. The lengths inside are integers, those that all rays make together, and the values are what they
    make of the lows and highs of all bands.
    """

    def __init__(self, many, bands):
        self.measure = 1
        self.rays = units(many)
        self.labels = [None] * many
        self.inside = [1] * many
        self.bands = [([], []) for _ in range(bands)]
        self.values_inside = [([], []) for _ in range(bands)]

    def twin(self):
        """A cone with the same sides and bands."""
        made = Cone(0, 0)
        made.measure = self.measure
        made.rays = list(self.rays)
        made.labels = list(self.labels)
        made.inside = self.inside
        made.bands = [(list(lows), list(highs)) for lows, highs in self.bands]
        made.values_inside = [(list(starts), list(ends)) for starts, ends in self.values_inside]
        return made

    def put_letter(self, index, low, high):
        """Put a letter behind the others of a band."""
        lows, highs = self.bands[index]
        lows.append(low)
        highs.append(high)
        starts, ends = self.values_inside[index]
        starts.append(product_of(low, self.inside))
        ends.append(product_of(high, self.inside))

    def settle(self):
        """None if the sides could be changed so that the lengths inside fit all bands, otherwise a bar of them."""
        while True:
            value, label = self.least_sum()
            if value > 0:
                return None
            bar = self.change_side(label)
            if bar is not None:
                return bar

    def least_sum(self):
        """The least of the lengths and of all differences of a high and a low of one band: (value, label)."""
        least, label = min(self.inside), None
        for index, (starts, ends) in enumerate(self.values_inside):
            start, end = max(starts), min(ends)
            if end - start < least:
                least, label = end - start, (index, starts.index(start), ends.index(end))
        return (least, label)

    def change_side(self, label):
        """Make a sum that is not above 0 inside one of the sides, or tell the bar if no lengths make it above 0."""
        factors = self.factors_of(label)
        parts = [product_of(factors, ray) for ray in self.rays]
        leaving = self.first_side(parts)
        if leaving is None:
            return self.bar_with(label, parts)
        pivot, kept = parts[leaving], self.rays[leaving]
        # Divided without a rest: the rays are the minors of the sides, and measure is their determinant.
        self.rays = [self.turned(ray, part, pivot, kept) for ray, part in zip(self.rays, parts)]
        self.rays[leaving] = kept
        self.labels[leaving] = label
        self.measure = pivot
        self.inside = [sum(row) for row in zip(*self.rays)]
        self.values_inside = [(self.products(lows), self.products(highs)) for lows, highs in self.bands]
        return None

    def factors_of(self, label):
        """The factors of the sum that a label tells, of the least length for None."""
        if label is None:
            return units(len(self.inside))[self.inside.index(min(self.inside))]
        index, i, j = label
        lows, highs = self.bands[index]
        return minus(highs[j], lows[i])

    def products(self, sums):
        """The list of what the lengths inside make of sums."""
        return [product_of(factors, self.inside) for factors in sums]

    def turned(self, ray, part, pivot, kept):
        """The ray that makes the new side 0, for one that makes it part."""
        return tuple([(pivot * value - part * other) // self.measure for value, other in zip(ray, kept)])

    def first_side(self, parts):
        """The index of the side that leaves: of those whose ray makes the new one above 0 the first, None without any.

        The lengths inside become, all together, as little longer as can be. Where two make them equally long, the
        single lengths tell, so that no sides come twice.
        """
        first = None
        for index, part in enumerate(parts):
            if part > 0:
                if first is None or self.pull(index, parts[first]) < self.pull(first, part):
                    first = index
        return first

    def pull(self, index, factor):
        """What tells which side leaves, multiplied by a factor."""
        ray = self.rays[index]
        return [factor * value for value in (sum(ray), *ray)]

    def bar_with(self, label, parts):
        """The bar of a sum that no ray makes above 0: this many times the sum is the sides, each not above 0 times."""
        told = [(label, self.measure), *[(other, -part) for other, part in zip(self.labels, parts)]]
        return tuple(sorted([(*row, weight) for row, weight in told if row is not None and weight > 0]))


def units(many):
    """The list of the sums that are one length alone, for so many names."""
    return [tuple([int(index == other) for other in range(many)]) for index in range(many)]


def product_of(one, other):
    """The sum of the products of two rows of integers, index by index."""
    return sum([first * second for first, second in zip(one, other)])


def minus(one, other):
    """The factors of the difference of two sums."""
    return tuple([first - second for first, second in zip(one, other)])


def sums_of(order):
    """The dict from each name of an order to the triple of its begin, its end and its shift, sums of lengths."""
    above, below = _begins_in(order.names, order.above), _begins_in(order.names, order.below)
    single = dict(zip(order.names, units(len(order))))
    return {name: (above[name], added(above[name], single[name]), minus(below[name], above[name])) for name in order}


def as_lengths(names, values):
    """The dict from the ascending names to numbers, by integers."""
    return {name: Number(value) for name, value in zip(names, values)}


def is_bar_of_bands(bands, value):
    """Whether a tuple of (index, i, j, weight), whatever stands in them, is a bar of some bands."""
    if len(value) == 0 or not all([_is_bar_row(bands, row) for row in value]):
        return False
    edges = [row[:3] for row in value]
    if any([edges[index] >= edges[index + 1] for index in range(len(edges) - 1)]):
        return False
    total = None
    for index, i, j, weight in value:
        lows, highs = bands[index]
        part = [weight * factor for factor in minus(highs[j], lows[i])]
        total = part if total is None else added(total, part)
    return max(total) <= 0


def _is_bar_row(bands, row):
    """Whether a value is a row (index, i, j, weight) with an edge of one of the bands."""
    if not isinstance(row, tuple) or len(row) != 4 or not all([is_integer(value) for value in row]):
        return False
    index, i, j, weight = row
    return 0 <= index < len(bands) and min(i, j) >= 0 and max(i, j) < len(bands[index][0]) and weight >= 1


def _begins_in(names, row):
    """The dict from each name of a row to the sum of the lengths of the names ahead of it."""
    begins, ahead = {}, [0] * len(names)
    for name in row:
        begins[name] = tuple(ahead)
        ahead[names.index(name)] = 1
    return begins
