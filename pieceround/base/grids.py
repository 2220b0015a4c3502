"""Numbers with one root told by pairs of integers, and numbers in their order."""

from math import gcd, lcm

from pieceround.base.numbers import Number, sign_of_sum


class Grid:
    """The numbers (x + y * s) / bottom, told by the pairs (x, y), where s is the square root of one root.

    A pair has no least form, which is what makes long ways slow.
    """

    def __init__(self, numbers):
        bottom = 1
        for number in numbers:
            bottom = lcm(bottom, number.bottom)
        self._bottom = bottom
        self._root = max([number.root for number in numbers])

    def has_root(self):
        """Whether some numbers of the grid are no fractions."""
        return self._root != 0

    def pair(self, number):
        """The pair of a number."""
        factor = self._bottom // number.bottom
        return (number.top * factor, number.part * factor)

    def number(self, pair):
        """The number of a pair."""
        return Number(pair[0], pair[1], root=self._root, bottom=self._bottom)

    def compared(self, one, other):
        """-1, 0 or 1 if the number of one pair is below, equal to, or above that of the other one."""
        return sign_of_sum(one[0] - other[0], one[1] - other[1], self._root)

    def greater(self, one, other):
        """The pair with the greater number."""
        return one if self.compared(one, other) > 0 else other

    def lesser(self, one, other):
        """The pair with the lesser number."""
        return one if self.compared(one, other) < 0 else other

    def proportions(self, pairs):
        """A tuple of pairs, equal for two lists of pairs exactly if one factor makes the numbers of one the others."""
        top, part = pairs[0]
        # Multiplied by the mirror of the first number, which becomes a fraction: the factor left over is one, too.
        turned = [(x * top - y * part * self._root, y * top - x * part) for x, y in pairs]
        common = 0
        for x, y in turned:
            common = gcd(common, x, y)
        if turned[0][0] < 0:
            common = -common
        return tuple([(x // common, y // common) for x, y in turned])


def plus(one, other):
    """The pair of the sum."""
    return (one[0] + other[0], one[1] + other[1])


def minus(one, other):
    """The pair of the difference."""
    return (one[0] - other[0], one[1] - other[1])


def ascending(numbers):
    """The list of the indices of the numbers, from the least number to the greatest one."""
    indices = []
    for index, number in enumerate(numbers):
        low, high = 0, len(indices)
        while low < high:
            middle = (low + high) // 2
            if numbers[indices[middle]].compared(number) > 0:
                high = middle
            else:
                low = middle + 1
        indices.insert(low, index)
    return indices
