"""Values of all the kinds that a call can be passed, and what the tests ask of errors."""

import unittest

from pieceround.base.numbers import Number
from pieceround.base.orders import Order
from pieceround.errors import InvalidCount, PieceError, TooMany, UnknownName
from pieceround.glue.heights import Raised
from pieceround.piece.exchanges import Exchange
from pieceround.rounds.parts import parts_of, reading_of
from pieceround.use.bench import Bench
from pieceround.walk.programs import Program

SIXTY = 10 ** 60 - 1       # the greatest integer of sixty digits
SIXTY_ONE = 10 ** 60       # the least one of sixty-one digits
HUNDRED = 10 ** 100 - 1

EIGHT_DEEP_LIST = [[[[[[[["a"]]]]]]]]
EIGHT_DEEP_TUPLE = (((((((("a",),),),),),),),)
EIGHT_DEEP_DICT = {"a": {"a": {"a": {"a": {"a": {"a": {"a": {"a": 1}}}}}}}}

INTEGERS = [0, 1, -1, 2, 7, 40, 41, -7, 701, 702, SIXTY, -SIXTY]
LONG_INTEGERS = [SIXTY_ONE, -SIXTY_ONE, HUNDRED, -HUNDRED]
BOOLEANS = [True, False]
NAMES = ["a", "z", "ab", "abcdefgh", "zzzzzzzz", "none"]
OTHER_STRINGS = [
    "", " ", "A", "aB", "a1", "1", "0", "-3", "a b", " a", "a ", "a\n", "\n", "\na", "a-b", "a_b", "`", "{",
    "abcdefghi", "a" * 4000, "~" * 4000, "1" * 4000, "1r5", "None", "True",
]
NAME_TUPLES = [(), ("a",), ("a", "b"), ("b", "a", "b"), ("a", "a"), ("abcdefgh",) * 41]
OTHER_TUPLES = [
    (1,), (True,), (None,), ("a", 1), ("a", ""), ("a", "A"), ("a", "abcdefghi"), ("a", ("b",)), (("a", "b"),),
    ("a", ["b"]), ("a", {}), (Number(1),), EIGHT_DEEP_TUPLE,
]
LISTS = [[], ["a"], ["a", "b"], [1], [[]], EIGHT_DEEP_LIST]
DICTS = [{}, {"a": "b"}, {"a": 1}, {1: "a"}, {("a",): ["b"]}, EIGHT_DEEP_DICT]
OBJECTS = [
    Number(1), Number(0), Number(1, 1, root=5, bottom=2), Order(("a",), ("a",)), Order(("a", "b"), ("b", "a")),
    PieceError("a"), InvalidCount(1), UnknownName("a"),
]
EXCHANGES = [Exchange.read("a b", "b a", "(1+1r5)/2", "1"), Exchange.read("a", "a", "1")]
PARTS = [part for exchange in EXCHANGES for part in parts_of(exchange, reading_of(exchange))]
ORDERS = [value for value in OBJECTS if isinstance(value, Order)]
NUMBERS = [value for value in OBJECTS if isinstance(value, Number)]
PROGRAMS = [Program((ORDERS[0],)), Program((ORDERS[1], ORDERS[1].inverse()))]
RAISED = [Raised(EXCHANGES[0], {"a": Number(1), "b": Number(-2)})]
BENCHES = [Bench(EXCHANGES[1])]
READINGS = [reading_of(exchange) for exchange in EXCHANGES]

ALL_KINDS = (
    INTEGERS + LONG_INTEGERS + BOOLEANS + [None] + NAMES + OTHER_STRINGS + NAME_TUPLES + OTHER_TUPLES
    + LISTS + DICTS + OBJECTS + EXCHANGES + PARTS + PROGRAMS + RAISED + BENCHES + READINGS
)


def all_but(*groups):
    """The values of all kinds, without those of the told groups."""
    left_out = {id(value) for group in groups for value in group}
    return [value for value in ALL_KINDS if id(value) not in left_out]


class CallTest(unittest.TestCase):
    """What tests ask of calls that are refused."""

    def refuses(self, error, call, *args, **told):
        """The call raises just this error, which is returned."""
        with self.assertRaises(error) as caught:
            call(*args, **told)
        self.assertIs(caught.exception.__class__, error)
        return caught.exception

    def refuses_count(self, value, call, *args, **told):
        """The call raises an InvalidCount that keeps this very value."""
        self.assertIs(self.refuses(InvalidCount, call, *args, **told).value, value)

    def refuses_all(self, error, call, *before, but=(), behind=()):
        """The call raises just this error for each value of all kinds but the told ones, whatever stands behind it."""
        left_out = {id(value) for value in but}
        for value in ALL_KINDS:
            if id(value) not in left_out:
                self.refuses(error, call, *before, value, *behind)

    def refuses_counts(self, least, most, call, *before):
        """The call refuses all that is no integer from least to most at this place, and keeps it."""
        for value in [*ALL_KINDS, least - 1, most + 1]:
            if not isinstance(value, int) or isinstance(value, bool) or not least <= value <= most:
                self.refuses_count(value, call, *before, value)

    def refuses_many(self, limit, call, *args, **told):
        """The call raises a TooMany that keeps this limit."""
        self.assertEqual(self.refuses(TooMany, call, *args, **told).limit, limit)

    def refuses_name(self, value, call, *args):
        """The call raises an UnknownName that keeps this very value."""
        self.assertIs(self.refuses(UnknownName, call, *args).name, value)
