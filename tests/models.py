"""Exchanges for the tests, and what the definitions say of them, done step by step."""

import random

from pieceround.base.numbers import Number
from pieceround.base.orders import Order
from pieceround.base.words import nth_name
from pieceround.piece.exchanges import Exchange

GOLD = Exchange.read("a b", "b a", "(1+1r5)/2", "1")
FOUR = Exchange.read("a b c d", "d c b a", "1r5", "1", "2+1r5", "1")
MIX = Exchange.read("a b c", "c b a", "1+1r2", "1", "1r2")
SPLIT = Exchange.read("a b c", "c b a", "1", "1r2", "1")
ONES = Exchange.read("a b c", "c b a", "1", "1", "1")
NAMED = [GOLD, FOUR, MIX, SPLIT, ONES]

# A loop and a cycle side by side, and one within the other; a lead; needless pairs; several blocks; one name.
OTHERS = [
    Exchange.read("a b c", "b a c", "1r2", "1", "1r2"),
    Exchange.read("c b a", "c a b", "2", "1+1r3", "1"),
    Exchange.read("a b c d", "b a d c", "1", "1r2", "1r2", "2"),
    Exchange.read("a b c d e", "c b a e d", "1", "2", "1", "3/2", "1/2"),
    Exchange.read("a b", "b a", "(7+1r3)/2", "1"),
    Exchange.read("x b a", "a b x", "3", "1r7", "1/3"),
    Exchange.read("b a c", "c b a", "3", "1", "2"),
    Exchange.read("a b c", "a b c", "1/2", "1r2", "3"),
    Exchange.read("z", "z", "7/2"),
    Exchange.read("z", "z", "1+1r5"),
    Exchange.read("a b", "b a", "1", "1"),
    Exchange.read("a b", "b a", "5", "3"),
    Exchange.read("e d c b a", "a c e b d", "1", "1r2", "2", "1", "1+1r2"),
    Exchange.read("a b c d e f", "f e d c b a", "1", "2", "1", "2", "1", "2"),
]


def reversed_exchange(lengths):
    """The exchange whose lower row is the upper row read backwards, with these numbers as its lengths."""
    names = tuple(nth_name(index) for index in range(len(lengths)))
    return Exchange(Order(names, names[::-1]), dict(zip(names, lengths)))


def random_exchanges(many, seed, most_names=5):
    """Exchanges with few different lengths, so that even rounds, blocks and loops come often."""
    source = random.Random(seed)
    made = []
    for _ in range(many):
        upper = source.sample([nth_name(index) for index in range(30)], source.randint(1, most_names))
        lower = source.sample(upper, len(upper))
        root = source.choice([0, 2, 3, 5])
        numbers = [Number(1), Number(2), Number(1, bottom=2)]
        if root:
            numbers += [Number(0, 1, root=root), Number(1, 1, root=root), Number(1, 1, root=root, bottom=2)]
        made.append(Exchange(Order(tuple(upper), tuple(lower)), {name: source.choice(numbers) for name in upper}))
    return made


def total_of(numbers):
    total = Number(0)
    for number in numbers:
        total = total + number
    return total


def half_of(number):
    return number * Number(1, bottom=2)


def is_in(point, begin, end):
    return point.compared(begin) >= 0 and point.compared(end) < 0


def step(exchange, point):
    """The name of the piece of a point, and its image, as [0.10] has them."""
    lengths, order = exchange.lengths, exchange.order
    begin = Number(0)
    for name in order.above:
        if is_in(point, begin, begin + lengths[name]):
            below = total_of(lengths[other] for other in order.below[:order.below.index(name)])
            return name, point + below - begin
        begin = begin + lengths[name]
    raise AssertionError("no point")


def way(exchange, point, many):
    """The first points of a way, many of them and one more, and the names of the pieces of all but the last."""
    points, names = [point], []
    for _ in range(many):
        name, image = step(exchange, points[-1])
        names.append(name)
        points.append(image)
    return points, tuple(names)


def points_of(exchange):
    """Points at 0, at the cuts, inside the pieces, and just below the total, with a root where there is none."""
    cuts = [Number(0), *exchange.upper_cuts, *exchange.lower_cuts]
    inside = [exchange.begins[name] + half_of(exchange.lengths[name]) for name in exchange]
    small = Number(1, bottom=10 ** 9)
    points = [*cuts, *inside, exchange.total - small, *[cut - small for cut in cuts if cut.sign > 0]]
    if exchange.root == 0:
        points.append(exchange.total * Number(0, 1, root=2, bottom=2))
    return points


def wrong_points(exchange):
    """Numbers that are no points of an exchange."""
    small = Number(1, bottom=10 ** 9)
    told = [-small, Number(-1), exchange.total, exchange.total + small, exchange.total * 2]
    if exchange.root != 0:
        told.append(Number(0, 1, root=11, bottom=10 ** 9))
    return told


def names_with(many):
    return tuple(nth_name(index) for index in range(many))
