"""Programs: orders over the same names, done one behind the other with the same lengths."""

from pieceround.base.numbers import Number
from pieceround.base.orders import Order
from pieceround.errors import InvalidOperation, InvalidProgram, TooMany
from pieceround.piece.exchanges import Exchange, behind
from pieceround.walk.sides import as_lengths
from pieceround.walk.words import empty_word, is_bar_of_word, tables_of

MAX_ORDERS = 4
MAX_PROGRAM_NAMES = 5
MAX_ROWS = 300


class Program:
    """One to four orders over the same names, at most five."""

    def __init__(self, orders):
        if not _are_orders(orders):
            raise InvalidProgram("a tuple of one to four orders over the same names, at most five, is asked for")
        self._orders = orders
        self._names = orders[0].names

    @property
    def orders(self):
        """The orders, one behind the other."""
        return self._orders

    @property
    def names(self):
        """The names, ascending."""
        return self._names

    def inverse(self):
        """The program that takes all points back."""
        return Program(tuple([order.inverse() for order in self._orders[::-1]]))

    def __len__(self):
        return len(self._orders)

    def __eq__(self, other):
        return isinstance(other, Program) and self._orders == other._orders

    def __str__(self):
        told = ""
        mark = ""
        for order in self._orders:
            told = f"{told}{mark}{order}"
            mark = ", "
        return f"{told}"


def laid(program, lengths):
    """The exchange that a program does for some lengths."""
    _require_program(program)
    orders = program.orders
    # What are no lengths is refused here.
    done = Exchange(orders[0], lengths)
    for order in orders[1:]:
        done = behind(done, Exchange(order, lengths))
    return done


def are_alike(one, other):
    """Whether two programs take each point to the same point for all lengths."""
    come, _ = _least_words(one, other)
    return all([word.agrees() for word in come])


def parted_by(one, other):
    """A pair of lengths and a point at which two programs differ, None if they are alike."""
    come, _ = _least_words(one, other)
    for word in come:
        if not word.agrees():
            lengths, point = word.parting()
            return (as_lengths(one.names, lengths), Number(point))
    return None


def cases_of(one, other):
    """A paper for two programs whose words are the least ones, None if the programs are not alike."""
    come, barred = _least_words(one, other)
    if not all([word.agrees() for word in come]):
        return None
    rows = [*[(word.spelling, None) for word in come], *[(word.spelling, word.bar) for word in barred]]
    return tuple(sorted(rows, key=lambda row: row[0]))


def is_cases(one, other, value):
    """Whether the value is a paper for two programs."""
    _require_programs(one, other)
    if not isinstance(value, tuple):
        return False
    letters = len(one) + len(other)
    if not all([_has_word(one.names, letters, row) for row in value]):
        return False
    words = [row[0] for row in value]
    if not _are_all_begun(words, len(one.names), letters):
        return False
    known = _words_within(one, other, words)
    return all([_is_case(known[word], bar, letters) for word, bar in value])


def _are_orders(value):
    """Whether the value is a tuple of one to four orders over the same names, at most five."""
    if not isinstance(value, tuple) or not 1 <= len(value) <= MAX_ORDERS:
        return False
    if not all([isinstance(order, Order) for order in value]):
        return False
    names = value[0].names
    return len(names) <= MAX_PROGRAM_NAMES and all([order.names == names for order in value])


def _require_program(value):
    """Raise InvalidProgram unless the value is a program."""
    if not isinstance(value, Program):
        raise InvalidProgram("a program is asked for")


def _require_programs(one, other):
    """Raise the error of two programs that are not over the same names."""
    _require_program(one)
    _require_program(other)
    if one.names != other.names:
        raise InvalidOperation("two programs over the same names are asked for")


def _least_words(one, other):
    """The pair of the full words that come for some lengths, and of the least words that have a bar."""
    _require_programs(one, other)
    front, barred, opened = [empty_word(len(one.names))], [], 0
    for position, table in enumerate(tables_of((*one.orders, *other.orders))):
        # Each word that is opened gives way to one for each name.
        opened += len(front)
        if 1 + opened * (len(one.names) - 1) > MAX_ROWS:
            raise TooMany(MAX_ROWS)
        grown = [word.grown(name, table[name], position < len(one)) for word in front for name in one.names]
        front = [word for word in grown if word.bar is None]
        barred.extend([word for word in grown if word.bar is not None])
    return (front, barred)


def _has_word(names, most, value):
    """Whether the value is a pair of a tuple of at most so many of the names, and of something."""
    if not isinstance(value, tuple) or len(value) != 2 or not isinstance(value[0], tuple):
        return False
    return len(value[0]) <= most and all([name in names for name in value[0]])


def _words_within(one, other, words):
    """The dict from tuples of letters, and from all with which they begin, to the words with these letters."""
    tables = tables_of((*one.orders, *other.orders))
    known = {(): empty_word(len(one.names))}
    for letters in words:
        for position, name in enumerate(letters):
            begun = letters[:position + 1]
            if begun not in known:
                known[begun] = known[begun[:-1]].longer(name, tables[position][name], position < len(one))
    return known


def _is_case(word, bar, full):
    """Whether a row of a paper is right, for words that are full with so many letters."""
    if bar is None:
        return len(word.spelling) == full and word.agrees()
    return is_bar_of_word(word, bar)


def _are_all_begun(words, names, letters):
    """Whether words are ascending, and each full word, with so many letters out of so many names, begins with one."""
    for index in range(1, len(words)):
        word, ahead = words[index], words[index - 1]
        # Words that begin with another one stand right behind it.
        if word <= ahead or word[:len(ahead)] == ahead:
            return False
    full = [1]
    for _ in range(letters):
        full.append(full[-1] * names)
    return sum([full[letters - len(word)] for word in words]) == full[letters]
