"""Stage 18: likeness, and what [0.21] and [0.22] say of it."""

import itertools
import random
import unittest

from pieceround.base.numbers import Number
from pieceround.base.orders import Order, each_order
from pieceround.errors import InvalidExchange, InvalidOperation, InvalidOrder
from pieceround.piece.exchanges import Exchange, are_same, behind, cut_at
from pieceround.same.likeness import is_leading, is_swaps, leading, periods, swaps
from pieceround.same.wedges import comes_round, wedge
from tests.models import (
    GOLD, NAMED, ONES, OTHERS, SPLIT, half_of, is_in, names_with, points_of, random_exchanges, total_of,
)
from tests.samples import ALL_KINDS, EXCHANGES, ORDERS, CallTest

SOURCE = random.Random(18)
TURNED = Exchange.read("a b c", "b a c", "1", "1", "1")
REVERSED = Order.read("a b c", "c b a")
LONG = Exchange.read("a b", "b a", "1000", "1")       # a reading of 1000 rounds
TOO_LONG = Exchange.read("a b", "b a", "1001", "1")   # one more
HALF = Number(1, bottom=2)


def comes_round_soon(exchange):
    try:
        return comes_round(exchange, most=200)
    except OverflowError:
        return False


ROUND = [one for one in NAMED + OTHERS + random_exchanges(120, 181) if comes_round_soon(one)]


def whole_exchanges(many, total, seed):
    """Exchanges with lengths that are integers and have this sum."""
    source, found = random.Random(seed), []
    while len(found) < many:
        names = names_with(source.randint(1, min(4, total)))
        cuts = sorted(source.sample(range(1, total), len(names) - 1))
        lengths = [end - begin for begin, end in zip([0, *cuts], [*cuts, total])]
        lower = source.sample(names, len(names))
        found.append(Exchange(Order(names, tuple(lower)), dict(zip(names, [Number(length) for length in lengths]))))
    return found


def period_of(exchange, point):
    image, steps = exchange(point), 1
    while image != point:
        image, steps = exchange(image), steps + 1
    return steps


def is_leading_by_definition(one, other, strips):
    """For exchanges and strips with multiples of 1/2: each point of the middles of the halves is taken once."""
    taken, given = [], []
    for begin, other_begin, length, period in strips:
        for place in range((length * 2).top):
            inside = Number(2 * place + 1, bottom=4)
            point, mate = begin + inside, other_begin + inside
            for exchange, start in ((one, point), (other, mate)):
                if start.compared(exchange.total) >= 0 or period_of(exchange, start) != period:
                    return False
            for _ in range(period):
                taken.append(str(point))
                given.append(str(mate))
                point, mate = one(point), other(mate)
    every = sorted(str(Number(2 * place + 1, bottom=4)) for place in range((one.total * 2).top))
    return sorted(taken) == every == sorted(given)


def image_by(one, other, strips, point):
    """Where strips take a point."""
    for begin, other_begin, length, period in strips:
        place, steps = point, 0
        while steps < period:
            if is_in(place, begin, begin + length):
                mate = other_begin + place - begin
                for _ in range(steps):
                    mate = other.back(mate)
                return mate
            place, steps = one(place), steps + 1
    raise AssertionError("no strip has the point")


class PeriodsTest(CallTest):

    def test_periods(self):
        self.assertGreater(len(ROUND), 50)
        for one in ROUND:
            found = periods(one)
            self.assertEqual((list(found), total_of(found[period] * 1 for period in found)), (sorted(found), one.total))
            for point in points_of(one)[:4]:
                self.assertIn(period_of(one, point), found)

    def test_lengths_of_periods(self):
        for one in whole_exchanges(60, 7, 182):
            told = {}
            for place in range(7):
                period = period_of(one, Number(2 * place + 1, bottom=2))
                told[period] = told.get(period, 0) + 1
            self.assertEqual(periods(one), {period: Number(told[period]) for period in sorted(told)})

    def test_bounds(self):
        self.assertEqual(periods(LONG), {1001: Number(1001)})
        self.refuses_many(1000, periods, TOO_LONG)
        self.assertEqual(periods(Exchange.read("z", "z", "1+1r5")), {1: Number(1, 1, root=5)})

    def test_wrong_arguments(self):
        self.refuses_all(InvalidExchange, periods, but=EXCHANGES)
        self.refuses(InvalidOperation, periods, GOLD)
        self.refuses_many(1000, periods, Exchange.read("a b", "b a", "2000", "1r2"))
        self.refuses(InvalidOperation, periods, Exchange.read("a b c d", "b a d c", "1", "1r2", "1r2", "1"))


class LeadingTest(CallTest):

    def test_exchanges_with_one_total(self):
        found = []
        for one, other in itertools.product(whole_exchanges(25, 6, 183), repeat=2):
            strips = leading(one, other)
            found.append(strips is not None)
            self.assertIs(found[-1], periods(one) == periods(other))
            if strips is not None:
                self.assertIs(is_leading(one, other, strips), True)
                self.assertTrue(is_leading_by_definition(one, other, strips))
                for place in range(12):
                    point = Number(2 * place + 1, bottom=4)
                    mate = image_by(one, other, strips, point)
                    self.assertEqual(image_by(one, other, strips, one(point)), other(mate))
        self.assertGreater(found.count(True), 60)
        self.assertGreater(found.count(False), 60)

    def test_exchanges_that_were_led(self):
        # What an exchange leads to another one is alike: f behind the inverse of f done before.
        done = 0
        for one in ROUND:
            for other in ROUND:
                if one.total == other.total and comes_round_soon(other) and one.root in (0, other.root):
                    try:
                        led = behind(behind(other.inverse(), one), other)
                    except OverflowError:
                        continue
                    strips = leading(one, led)
                    self.assertIs(strips is not None and is_leading(one, led, strips), True)
                    self.assertIs(is_leading(led, one, leading(led, one)), True)
                    done += 1
        self.assertGreater(done, 60)

    def test_all_small_values(self):
        pairs = [(ONES, TURNED), (ONES, ONES), (TURNED, Exchange.read("a b", "b a", "2", "1")),
                 (Exchange.read("a", "a", "2"), Exchange.read("a b", "a b", "1", "1"))]
        numbers = [Number(value, bottom=2) for value in range(7)]
        for one, other in pairs:
            strips = [(begin, mate, length, period) for begin in numbers[::2] for mate in numbers[::2]
                      for length in numbers[2::2] for period in (1, 2)
                      if (begin + length).compared(one.total) <= 0 and (mate + length).compared(one.total) <= 0]
            found = 0
            for many in (1, 2):
                for value in itertools.product(strips, repeat=many):
                    told = is_leading_by_definition(one, other, value)
                    self.assertIs(is_leading(one, other, value), told)
                    found += told
            self.assertEqual(found > 0, leading(one, other) is not None)

    def test_strips_that_are_parted_and_turned(self):
        for one, other in itertools.product(whole_exchanges(12, 6, 184), repeat=2):
            strips = leading(one, other)
            if strips is None:
                continue
            parted = []
            for begin, mate, length, period in strips:
                half = half_of(length)
                parted += [(begin, mate, half, period), (begin + half, mate + half, half, period)]
            self.assertIs(is_leading(one, other, tuple(parted[::-1])), True)
            # A strip can begin at any point of the ways that it has.
            led = []
            for begin, mate, length, period in parted:
                if period > 1 and one.piece_at(begin) == one.piece_at(begin + length - Number(1, bottom=9)):
                    begin = one(begin)
                led.append((begin, mate, length, period))
            told = is_leading_by_definition(one, other, led) if max(
                length.bottom for _, _, length, _ in led) <= 2 else None
            if told is not None:
                self.assertIs(is_leading(one, other, tuple(led)), told)
            begin, mate, length, period = parted[0]
            third = length * Number(1, bottom=3)
            for strip in ((begin, mate, third, period), (begin, mate, length, period + 1),
                          (begin, mate, length, period * 10 ** 70), (begin, mate, length * 2, period)):
                self.assertIs(is_leading(one, other, (strip, *parted[1:])), False)
            self.assertIs(is_leading(one, other, (*parted, parted[0])), False)
            self.assertIs(is_leading(one, other, tuple(parted[1:])), False)

    def test_roots(self):
        # The begins of strips can have a root that the lengths do not have, if it is one.
        two, three = Number(0, 1, root=2, bottom=4), Number(0, 1, root=3, bottom=4)
        one = Exchange.read("z", "z", "1")
        def parted(cut, mate):
            return ((Number(0), mate, cut, 1), (cut, Number(0), Number(1) - cut, 1))
        self.assertIs(is_leading(one, one, parted(two, Number(1) - two)), True)
        self.assertIs(is_leading(one, one, parted(three, Number(1) - three)), True)
        self.assertIs(is_leading(one, one, parted(two, Number(1) - three)), False)
        self.assertIs(is_leading(SPLIT, SPLIT, leading(SPLIT, SPLIT)), True)
        begin, mate, length, period = leading(SPLIT, SPLIT)[0]
        self.assertIs(is_leading(SPLIT, SPLIT, ((begin + three, mate, length, period),)), False)
        others = Exchange.read("a", "a", "2"), Exchange.read("a b", "a b", "1r2", "2-1r2")
        self.assertIs(is_leading(*others, leading(*others)), True)
        self.assertIs(is_leading(*others, ((Number(0), Number(0), Number(2), 1),)), True)

    def test_ends(self):
        single = Exchange.read("a", "a", "1")
        for begin, mate, length, is_right in ((0, 0, 1, True), (-1, -1, 2, False), (0, 0, 2, False), (-1, 0, 1, False),
                                              (0, -1, 1, False), (1, 1, 1, False), (1, 1, 0, False)):
            value = ((Number(begin), Number(mate), Number(length), 1),)
            self.assertIs(is_leading(single, single, value), is_right)
            # A strip without points is none, beside right ones as well.
            for place in (Number(0), HALF, Number(1)):
                self.assertIs(is_leading(single, single, (*value, (place, place, Number(0), 1))), False)
                self.assertIs(is_leading(single, single, ((place, place, Number(0), 1), *value)), False)

    def test_totals(self):
        for one, other in ((ONES, SPLIT), (ONES, ONES.scaled(Number(2))), (SPLIT, Exchange.read("a", "a", "2"))):
            self.assertIsNone(leading(one, other))
            for value in (leading(one, one), (), None):
                self.assertIs(is_leading(one, other, value), False)

    def test_many_pieces_and_long_periods(self):
        one = Exchange.read("a b", "b a", "987", "610")
        other = Exchange.read("a b c", "c b a", "610", "377", "610")
        for left, right in ((one, one), (other, other), (one, Exchange.read("a b", "b a", "610", "987")), (LONG, LONG)):
            strips = leading(left, right)
            self.assertIs(is_leading(left, right, strips), True)
            # Each strip as many that begin at many points of its ways.
            parts, (begin, mate, length, period) = [], strips[0]
            for index in range(20):
                step_length = length * Number(1, bottom=20)
                place, image = begin + step_length * index, mate + step_length * index
                for _ in range(7 * index % 90):
                    place, image = left(place), right(image)
                parts.append((place, image, step_length, period))
            ends = [(left, place) for place, _, _, _ in parts] + [(right, image) for _, image, _, _ in parts]
            if all(exchange.piece_at(place) == exchange.piece_at(place + step_length * Number(9, bottom=10))
                   for exchange, place in ends):
                self.assertIs(is_leading(left, right, (*parts, *strips[1:])), True)
            self.assertIs(is_leading(left, right, (*parts[1:], *strips[1:])), False)
        twins = [cut_at(LONG, tuple(Number(place) for place in (3, 50, 700))), LONG]
        self.assertIs(is_leading(*twins, leading(*twins)), True)

    def test_periods_with_more_than_sixty_digits(self):
        small, great = 1, 1
        while great < 10 ** 62:
            small, great = great, small + great
        one = Exchange(Order.read("a b", "b a"), {"a": Number(great), "b": Number(small)})
        strips = leading(one, one)
        self.assertEqual([period for _, _, _, period in strips], [great + small])
        self.assertIs(is_leading(one, one, strips), True)

    def test_what_is_not_true(self):
        # Equal orders and totals; equal wedges and totals, one of which comes round.
        one, other = Exchange.read("a b", "b a", "2", "2"), Exchange.read("a b", "b a", "3", "1")
        self.assertIsNone(leading(one, other))
        self.assertEqual((wedge(one), one.total), (wedge(other), other.total))
        self.assertIsNotNone(leading(ONES, cut_at(ONES, (HALF,))))
        # No strip needs to take a begin to a begin.
        moved = ((HALF, Number(0), HALF, 1), (Number(0), HALF, HALF, 1))
        single = Exchange.read("a b", "a b", "3/4", "1/4")
        self.assertIs(is_leading(single, Exchange.read("a", "a", "1"), moved), True)

    def test_values(self):
        right = ((Number(0), Number(0), Number(1), 2), (Number(1), Number(2), Number(1), 1))
        self.assertIs(is_leading(ONES, TURNED, right), True)
        first, second = right
        wrong = [
            (), list(right), (list(first), second), (first,), (first, second, second), (first[:3], second),
            ((*first, 1), second), ((Number(0), Number(0), Number(1), True), second), (first, (*second[:3], True)),
            ((Number(0), Number(0), Number(1), Number(2)), second), ((0, Number(0), Number(1), 2), second),
            ((Number(0), 0, Number(1), 2), second), ((Number(0), Number(0), 1, 2), second),
            ((Number(-1), Number(0), Number(1), 2), second), ((Number(0), Number(-1), Number(1), 2), second),
            ((Number(0), Number(0), Number(-1), 2), second), ((Number(0), Number(0), Number(0), 2), *right),
            ((Number(3), Number(0), Number(1), 2), second), ((Number(0), Number(0), Number(1), 0), second),
            ((Number(0), Number(0), Number(1), -2), second), (first, None), None, right[0],
        ]
        for value in wrong:
            self.assertIs(is_leading(ONES, TURNED, value), False, value)
        for value in ALL_KINDS:
            self.assertIs(is_leading(ONES, TURNED, value), False)
            self.assertIs(is_leading(ONES, TURNED, (value,)), False)
            self.assertIs(is_leading(ONES, TURNED, (first, (*second[:3], value))), value == 1 and value is not True)

    def test_wrong_arguments(self):
        two, three = Exchange.read("a b", "a b", "1", "1r2"), Exchange.read("a b", "a b", "1", "1r3")
        for call, rest in ((leading, ()), (is_leading, (None,)), (is_leading, ((),))):
            for other in (ONES, GOLD, None):
                self.refuses_all(InvalidExchange, call, but=EXCHANGES, behind=(other, *rest))
            for one in (ONES, GOLD, TOO_LONG):
                self.refuses_all(InvalidExchange, call, one, but=EXCHANGES, behind=rest)
            self.refuses(InvalidOperation, call, two, three, *rest)
            self.refuses(InvalidOperation, call, Exchange.read("a b", "b a", "2000", "1r3"), two, *rest)
            self.refuses_many(1000, call, TOO_LONG, GOLD, *rest)
            self.refuses(InvalidOperation, call, GOLD, TOO_LONG, *rest)
            self.refuses_many(1000, call, ONES, TOO_LONG, *rest)
            self.refuses(InvalidOperation, call, ONES, GOLD, *rest)


class SwapsTest(CallTest):

    def orders(self):
        orders = [Order.read("a", "a"), Order.read("a b", "a b"), Order.read("c a b", "b c a")]
        orders += [order for many in (2, 3, 4) for order in each_order(many)]
        for many in (5, 9, 40):
            names = names_with(many)
            orders.append(Order(tuple(SOURCE.sample(names, many)), tuple(SOURCE.sample(names, many))))
        return orders + [Order(names_with(40), names_with(40)[::-1])]

    def test_any_swaps(self):
        for order in self.orders():
            found = swaps(order)
            self.assertIs(is_swaps(order, found), True)
            told = [pair for pair in itertools.combinations(order.above, 2)
                    if order.below.index(pair[0]) > order.below.index(pair[1])]
            self.assertEqual(sorted(found), sorted(told))
            row = list(order.above)
            for left, right in found:
                at = row.index(left)
                self.assertEqual(row[at + 1], right)
                row[at:at + 2] = [right, left]
            self.assertEqual(tuple(row), order.below)

    def test_all_values(self):
        for order in [Order.read("a b c", "b a c"), REVERSED, Order.read("b a c", "a c b")]:
            pairs = list(itertools.permutations("abc", 2))
            for many in range(4):
                for value in itertools.product(pairs, repeat=many):
                    row, is_right = list(order.above), True
                    for left, right in value:
                        at = row.index(left)
                        is_right = is_right and row[at + 1:at + 2] == [right]
                        if is_right:
                            row[at:at + 2] = [right, left]
                    is_right = is_right and tuple(row) == order.below and many == len(swaps(order))
                    self.assertIs(is_swaps(order, value), is_right)

    def test_swaps_make_the_exchange(self):
        for one in NAMED + OTHERS:
            row, done = one.order.above, Exchange(Order(one.order.above, one.order.above), one.lengths)
            for left, right in swaps(one.order):
                at = row.index(left)
                turned = (*row[:at], right, left, *row[at + 2:])
                done = behind(done, Exchange(Order(row, turned), one.lengths))
                row = turned
            self.assertIs(are_same(done, one), True)

    def test_values(self):
        right = (("a", "b"), ("a", "c"), ("b", "c"))
        self.assertIs(is_swaps(REVERSED, right), True)
        wrong = [right[:2], right + right[:1], (*right, ("c", "b"), ("b", "c")), list(right), (["a", "b"], *right[1:]),
                 (("a", "b", "c"), *right[1:]), ("ab", *right[1:]), (("b", "a"), *right[1:]), (("a", "z"), *right[1:]),
                 ((1, 2), *right[1:]), (("z", "a"), *right[1:]), (("a",), *right[1:]),
                 (("z", "b"), *right[1:]), ((1, "b"), *right[1:]), (("c", "a"), *right[1:]), (("a", "a"), *right[1:])]
        for value in wrong:
            self.assertIs(is_swaps(REVERSED, value), False, value)
        for value in ALL_KINDS:
            self.assertIs(is_swaps(REVERSED, value), False)
            self.assertIs(is_swaps(REVERSED, (value, *right[1:])), value == right[0] and isinstance(value, tuple))
            self.assertIs(is_swaps(Order.read("a", "a"), value), value == () and isinstance(value, tuple))

    def test_wrong_arguments(self):
        self.refuses_all(InvalidOrder, swaps, but=ORDERS)
        for value in ((), None):
            self.refuses_all(InvalidOrder, is_swaps, but=ORDERS, behind=(value,))


if __name__ == "__main__":
    unittest.main()
