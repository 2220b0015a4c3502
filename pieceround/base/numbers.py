"""Numbers: integers, fractions, and those with one square root."""

from math import gcd, isqrt

from pieceround.base.words import is_any_integer
from pieceround.errors import InvalidNumber, InvalidOperation, ParseError

MAX_ROOT = 999

MAX_READ_FIGURES = 1000
# A square above 1 that divides an integer up to MAX_ROOT is a multiple of one of these.
PRIME_SQUARES = (4, 9, 25, 49, 121, 169, 289, 361, 529, 841, 961)


class Number:
    """The number (top + part * s) / bottom, where s is the square root of root."""

    def __init__(self, top, part=0, *, root=0, bottom=1):
        if not _are_valid(top, part, root, bottom):
            raise InvalidNumber("these do not make a number")
        # With the sign of bottom, so that bottom becomes greater than 0. Short ones first: a 1 ends the search.
        common = gcd(bottom, part, top)
        if bottom < 0:
            common = -common
        self._top = top // common
        self._part = part // common
        self._root = root if part != 0 else 0
        self._bottom = bottom // common

    @classmethod
    def read(cls, text):
        """The number with this text."""
        told = _integers_in(text)
        if told is None:
            raise ParseError(0)
        top, part, root, bottom = told
        if not _are_valid(top, part, root, bottom):
            raise ParseError(0)
        number = cls(top, part, root=root, bottom=bottom)
        # A number has just one text, so this refuses every needless sign, zero, bracket and factor.
        if str(number) != text:
            raise ParseError(0)
        return number

    @property
    def top(self):
        """The integer that stands alone in the least form."""
        return self._top

    @property
    def part(self):
        """The integer that multiplies the square root in the least form."""
        return self._part

    @property
    def root(self):
        """The root in the least form, 0 for a fraction."""
        return self._root

    @property
    def bottom(self):
        """The integer that divides both in the least form."""
        return self._bottom

    @property
    def sign(self):
        """-1, 0 or 1 for a number below 0, 0, or above 0."""
        return sign_of_sum(self._top, self._part, self._root)

    @property
    def floor(self):
        """The greatest integer that is not above the number."""
        # The floor of a sum with an integer, and of a division by one, can be taken inside first.
        return (self._top + _floor_of_root(self._part, self._root)) // self._bottom

    @property
    def mirror(self):
        """The number with -part in the place of part."""
        return Number(self._top, -self._part, root=self._root, bottom=self._bottom)

    @property
    def norm(self):
        """The product of the number and its mirror, a fraction."""
        return Number(_norm_above(self), bottom=self._bottom * self._bottom)

    def __add__(self, other):
        number = _operand(other)
        root = _common_root(self, number)
        top = self._top * number.bottom + number.top * self._bottom
        part = self._part * number.bottom + number.part * self._bottom
        return Number(top, part, root=root, bottom=self._bottom * number.bottom)

    def __sub__(self, other):
        number = _operand(other)
        root = _common_root(self, number)
        top, part = _difference_above(self, number)
        return Number(top, part, root=root, bottom=self._bottom * number.bottom)

    def __mul__(self, other):
        number = _operand(other)
        root = _common_root(self, number)
        top = self._top * number.top + self._part * number.part * root
        part = self._top * number.part + self._part * number.top
        return Number(top, part, root=root, bottom=self._bottom * number.bottom)

    def __neg__(self):
        return Number(-self._top, -self._part, root=self._root, bottom=self._bottom)

    def over(self, other):
        """The number divided by other, a number or an integer."""
        number = _argument(other)
        root = _common_root(self, number)
        if number.sign == 0:
            raise InvalidOperation("nothing is divided by 0")
        # Above and below are multiplied by the mirror of the divisor, which makes it a fraction.
        top = (self._top * number.top - self._part * number.part * root) * number.bottom
        part = (self._part * number.top - self._top * number.part) * number.bottom
        return Number(top, part, root=root, bottom=self._bottom * _norm_above(number))

    def compared(self, other):
        """-1, 0 or 1 for a number that is below, equal to, or above other, a number or an integer."""
        number = _argument(other)
        root = _common_root(self, number)
        top, part = _difference_above(self, number)
        return sign_of_sum(top, part, root)

    def __eq__(self, other):
        return (isinstance(other, Number) and self._top == other._top and self._part == other._part
                and self._root == other._root and self._bottom == other._bottom)

    def __str__(self):
        return str(_number_text(self._top, self._part, self._root, self._bottom))


def have_one_root(numbers):
    """Whether the numbers of a tuple have one root."""
    if not isinstance(numbers, tuple) or not all([isinstance(number, Number) for number in numbers]):
        raise InvalidNumber("a tuple of numbers is asked for")
    return len({number.root for number in numbers if number.root != 0}) <= 1


def _are_valid(top, part, root, bottom):
    """Whether the values, of any kind, can be those of a number."""
    if not all([is_any_integer(value) for value in (top, part, root, bottom)]):
        return False
    if bottom == 0:
        return False
    if root == 0:
        return part == 0
    return 2 <= root <= MAX_ROOT and all([root % square != 0 for square in PRIME_SQUARES])


def _as_number(value):
    """The number that a value is or stands for, None if it is neither a number nor an integer."""
    if is_any_integer(value):
        return Number(value)
    return value if isinstance(value, Number) else None


def _operand(value):
    """The number on the right of an operator."""
    number = _as_number(value)
    if number is None:
        raise TypeError("a number or an integer is asked for")
    return number


def _argument(value):
    """The number that a method is passed."""
    number = _as_number(value)
    if number is None:
        raise InvalidNumber("a number or an integer is asked for")
    return number


def _common_root(one, other):
    """The one root of two numbers, 0 if both are fractions."""
    if one.root != 0 and other.root != 0 and one.root != other.root:
        raise InvalidNumber("the numbers do not have one root")
    return max(one.root, other.root)


def _difference_above(one, other):
    """The integers top and part of one - other above the product of both bottoms."""
    top = one.top * other.bottom - other.top * one.bottom
    part = one.part * other.bottom - other.part * one.bottom
    return top, part


def _norm_above(number):
    """The integer that is the norm times the square of the bottom."""
    return number.top * number.top - number.part * number.part * number.root


def _sign_of_integer(value):
    """-1, 0 or 1 for an integer below 0, 0, or above 0."""
    if value == 0:
        return 0
    return 1 if value > 0 else -1


def sign_of_sum(top, part, root):
    """The sign of top + part * s, where s is the square root of root."""
    above, beside = _sign_of_integer(top), _sign_of_integer(part)
    if above == beside or beside == 0:
        return above
    # The greater one of both summands tells the sign; the squares differ, as the root is no square.
    return above if top * top > part * part * root else beside


def _floor_of_root(part, root):
    """The greatest integer that is not above part * s, where s is the square root of root."""
    least = isqrt(part * part * root)
    return least if part >= 0 else -least - 1


def _sum_text(top, part, root):
    """The text of the number with the bottom 1."""
    if part == 0:
        return str(top)
    if top == 0:
        return f"{part}r{root}"
    return f"{top}{part:+d}r{root}"


def _number_text(top, part, root, bottom):
    """The text of the number with this least form."""
    above = _sum_text(top, part, root)
    if bottom == 1:
        return above
    if top != 0 and part != 0:
        return f"({above})/{bottom}"
    return f"{above}/{bottom}"


def _integers_in(text):
    """The list of top, part, root and bottom that a text tells, None if it does not tell four integers."""
    if not isinstance(text, str):
        return None
    words = _words_in(text)
    if not all([_is_readable(word) for word in words]):
        return None
    return [int(word) for word in words]


def _words_in(text):
    """The list of the texts of top, part, root and bottom in a text, whatever they are."""
    above, slash, bottom = text.partition("/")
    front, letter, root = above.removeprefix("(").removesuffix(")").partition("r")
    if not slash:
        bottom = "1"
    if not letter:
        return [front, "0", "0", bottom]
    cut = max(front.rfind("+"), front.rfind("-"))
    if cut <= 0:
        return ["0", front, root, bottom]
    return [front[:cut], front[cut:].removeprefix("+"), root, bottom]


def _is_readable(word):
    """Whether a word is an integer of at most a thousand digits."""
    figures = word.removeprefix("-")
    return figures.isascii() and figures.isdigit() and len(figures) <= MAX_READ_FIGURES
