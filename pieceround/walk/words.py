"""Words of two programs: which lengths they need, and where they lead."""

from pieceround.rounds.rows import added
from pieceround.walk.sides import Cone, is_bar_of_bands, minus, product_of, sums_of, units


class Word:
    """A word of two programs: its spelling, a tuple of names, and a cone that has its letters as its only band.

    Ahead of the next letter a point is moved by first in the first program, and by second in the second one, sums of
    lengths. If the cone is settled, bar is None if the word comes for the lengths inside, and otherwise its bar.
    """

    def __init__(self, letters, first, second, cone):
        self.spelling = letters
        self.first = first
        self.second = second
        self.cone = cone
        self.bar = None

    def longer(self, name, sums, is_first):
        """The word with one letter more, by its begin, end and shift, in the first program or in the second one."""
        begin, end, shift = sums
        shifted = self.first if is_first else self.second
        cone = self.cone.twin()
        cone.put_letter(0, minus(begin, shifted), minus(end, shifted))
        led = added(shifted, shift)
        first, second = (led, self.second) if is_first else (self.first, led)
        return Word((*self.spelling, name), first, second, cone)

    def grown(self, name, sums, is_first):
        """The longer word with a settled cone."""
        made = self.longer(name, sums, is_first)
        found = made.cone.settle()
        if found is not None:
            made.bar = tuple([row[1:] for row in found])
        return made

    def agrees(self):
        """Whether both programs lead a point with this word to the same place for all lengths."""
        return self.first == self.second

    def parting(self):
        """The pair of lengths, integers, and of a point, an integer, that has the word and is led to two places."""
        apart = minus(self.first, self.second)
        lengths = self.cone.inside
        lows, highs = self.cone.bands[0]
        at = apart.index(max(apart, key=abs))
        # The lengths are made much longer, and then one of them a little: no edge comes down to 0, as each factor of
        # one is less than this, and the sum that is apart is not 0 both before and behind that.
        edge = 1 + max([abs(high[at] - low[at]) for high in highs for low in lows])
        if product_of(apart, lengths) == 0:
            lengths = added([edge * length for length in lengths], units(len(lengths))[at])
        return (lengths, max([product_of(low, lengths) for low in lows]))


def empty_word(many):
    """The word without letters, for so many names."""
    return Word((), (0,) * many, (0,) * many, Cone(many, 1))


def tables_of(orders):
    """The list of the dicts from the names of orders to their begins, ends and shifts."""
    return [sums_of(order) for order in orders]


def is_bar_of_word(word, value):
    """Whether the value is a bar of a word."""
    if not isinstance(value, tuple) or not all([isinstance(row, tuple) for row in value]):
        return False
    return is_bar_of_bands(word.cone.bands, tuple([(0, *row) for row in value]))
