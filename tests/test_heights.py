"""Stage 16: heights, and what [0.20] says of raised exchanges."""

import random
import unittest

from pieceround.base.numbers import Number
from pieceround.base.orders import Order, each_order
from pieceround.errors import InvalidExchange, InvalidHeights, InvalidOperation, InvalidOrder, Refused
from pieceround.glue.heights import Raised, are_right, heights_of
from pieceround.piece.exchanges import Exchange
from pieceround.rounds.rounds import columns, course_of, round_kind, rounded
from tests.models import FOUR, GOLD, NAMED, ONES, OTHERS, SPLIT, names_with, random_exchanges, total_of
from tests.samples import ALL_KINDS, EXCHANGES, ORDERS, CallTest

SOURCE = random.Random(16)
TURN = Order.read("a b", "b a")
SMALL = [order for many in (2, 3, 4) for order in each_order(many)]
NOT_WHOLE = [Order.read("a", "a"), Order.read("a b", "a b"), Order.read("a b c", "b a c")]
HUGE = Order(names_with(40), names_with(40)[::-1])
FLIPPED = {"upper": "lower", "lower": "upper", None: None}


def are_right_by_definition(order, heights):
    if not order.is_whole:
        return False
    sums = [(total_of(heights[name] for name in row[:many]), sign)
            for row, sign in ((order.above, 1), (order.below, -1)) for many in range(1, len(order))]
    return all(total.sign == sign for total, sign in sums)


def random_heights(order, root=0):
    """Right heights, found by chance around those that are told."""
    while True:
        heights = {name: number * SOURCE.randint(3, 9) + Number(SOURCE.randint(-9, 9), bottom=2)
                   for name, number in heights_of(order).items()}
        if root:
            heights = {name: number + Number(0, SOURCE.randint(-1, 1), root=root) for name, number in heights.items()}
        if are_right_by_definition(order, heights):
            return heights


def raised_samples():
    found = [Raised(one, random_heights(one.order, one.root or SOURCE.choice((0, 7))))
             for one in NAMED + OTHERS + random_exchanges(200, 161) if one.order.is_whole]
    for order in SMALL:
        one = Exchange(order, {name: Number(SOURCE.randint(1, 9)) for name in order})
        found.append(Raised(one, heights_of(order)))
    return found


SAMPLES = raised_samples()


class RightTest(CallTest):

    def test_definition(self):
        found = []
        for order in SMALL + NOT_WHOLE:
            for _ in range(100):
                heights = {name: Number(SOURCE.randint(-2, 3)) for name in order}
                found.append(are_right(order, heights))
                self.assertIs(found[-1], are_right_by_definition(order, heights))
        self.assertGreater(found.count(True), 40)
        self.assertGreater(found.count(False), 100)

    def test_sums_that_are_zero(self):
        order = Order.read("a b c", "c b a")
        for heights, is_told in (((1, 0, -1), True), ((1, -1, -1), False), ((0, 1, -2), False), ((2, -1, -1), True),
                                 ((1, 1, 0), False), ((1, 1, -1), False), ((1, 0, 0), False), ((2, 1, -2), True)):
            value = dict(zip("abc", [Number(height) for height in heights]))
            self.assertIs(are_right(order, value), is_told)
        # The sum of all heights can be anything.
        self.assertIs(are_right(TURN, {"a": Number(1), "b": Number(-1)}), True)
        self.assertIs(are_right(TURN, {"a": Number(10 ** 80), "b": Number(-1, bottom=10 ** 80)}), True)

    def test_roots(self):
        self.assertIs(are_right(TURN, {"a": Number(2, -1, root=3), "b": Number(1, -1, root=3)}), True)
        self.assertIs(are_right(TURN, {"a": Number(1, -1, root=3), "b": Number(1, -1, root=3)}), False)
        self.assertIs(are_right(TURN, {"a": Number(2, -1, root=3), "b": Number(1, -1, root=2)}), False)
        self.assertIs(are_right(TURN, {"a": Number(2), "b": Number(1, -1, root=2)}), True)

    def test_multiples_and_sums(self):
        for order in SMALL:
            one, other = random_heights(order, 2), random_heights(order)
            for number in (Number(3, bottom=7), Number(1, 1, root=2), Number(3, -2, root=2)):
                self.assertIs(are_right(order, {name: one[name] * number for name in order}), True)
            self.assertIs(are_right(order, {name: one[name] + other[name] for name in order}), True)
            opposite = {name: -one[name] for name in order}
            self.assertIs(are_right(order, opposite), False)
            self.assertIs(are_right(order.inverse(), opposite), True)

    def test_values(self):
        for value in ALL_KINDS:
            self.assertIs(are_right(TURN, value), False)
            self.assertIs(are_right(Order.read("a", "a"), value), False)
        right = {"a": Number(1), "b": Number(-1)}
        self.assertIs(are_right(TURN, right), True)
        for value in ({"a": Number(1)}, {**right, "c": Number(1)}, {"a": Number(1), "c": Number(-1)}, {"a": 1, "b": -1},
                      {"a": Number(1), "b": None}, list(right.items()), (Number(1), Number(-1)),
                      {**right, 1: Number(1)}):
            self.assertIs(are_right(TURN, value), False)
        self.assertIs(are_right(Order.read("a", "a"), {"a": Number(1)}), False)

    def test_any_heights(self):
        for order in SMALL + list(each_order(5)) + [HUGE, HUGE.renamed(dict(zip(HUGE, names_with(40)[::-1])))]:
            found = heights_of(order)
            self.assertEqual((are_right(order, found), list(found)), (True, sorted(order)))
            self.assertTrue(are_right_by_definition(order, found))

    def test_wrong_arguments(self):
        for value in (None, {"a": Number(1), "b": Number(-1)}):
            self.refuses_all(InvalidOrder, are_right, but=ORDERS, behind=(value,))
        self.refuses_all(InvalidOrder, heights_of, but=ORDERS)
        for order in NOT_WHOLE:
            self.refuses(InvalidOperation, heights_of, order)


class RaisedTest(CallTest):

    def test_members(self):
        for raised in SAMPLES:
            one, heights, order = raised.exchange, raised.heights, raised.exchange.order
            rises = {}
            for name in sorted(order):
                ahead = [order.above[:order.above.index(name)], order.below[:order.below.index(name)]]
                above, below = (total_of(heights[other] for other in row) for row in ahead)
                rises[name] = above - below
                self.assertEqual(rises[name].sign, 1)
            self.assertEqual((list(raised.rises.items()), list(heights)), (list(rises.items()), sorted(order)))
            self.assertEqual(raised.area, total_of(one.lengths[name] * rises[name] for name in order))
            sign = total_of(heights.values()).sign
            self.assertEqual(raised.back_kind, {-1: "upper", 0: None, 1: "lower"}[sign])
            self.assertEqual(str(raised), f"raised {order}")

    def test_what_is_passed_and_returned_is_not_shared(self):
        heights = {"b": Number(-2), "a": Number(1)}
        raised = Raised(GOLD, heights)
        heights["a"] = Number(5)
        raised.heights["a"] = Number(6)
        raised.rises.clear()
        self.assertEqual((list(raised.heights.items()), len(raised.rises)), ([("a", Number(1)), ("b", Number(-2))], 2))

    def test_equal(self):
        raised = Raised(GOLD, {"a": Number(1), "b": Number(-2)})
        self.assertTrue(raised == Raised(GOLD, raised.heights) and not raised != Raised(GOLD, raised.heights))
        for value in [*ALL_KINDS, Raised(GOLD, {"a": Number(1), "b": Number(-1)}),
                      Raised(GOLD.scaled(Number(2)), raised.heights), raised.inverse()]:
            self.assertTrue(raised != value or value == raised)
            self.assertEqual(raised == value, isinstance(value, Raised) and str(value.area) == "2+1r5"
                             and value.exchange == GOLD)
        self.refuses(TypeError, iter, raised)

    def test_wrong_arguments(self):
        right = {"a": Number(1), "b": Number(-1)}
        whole = [one for one in EXCHANGES if one.order.is_whole]
        for heights in (right, None, {"a": Number(1)}):
            self.refuses_all(InvalidExchange, Raised, but=whole, behind=(heights,))
            for rows in (("a", "a", "1"), ("a b", "a b", "1", "1"), ("a b c", "b a c", "1", "1", "1")):
                self.refuses(InvalidExchange, Raised, Exchange.read(*rows), heights)
        self.refuses_all(InvalidHeights, Raised, GOLD)
        for heights in ({"a": Number(1), "b": Number(1)}, {"a": Number(0), "b": Number(-1)}, {"a": Number(1)},
                        {**right, "c": Number(1)}, {"a": 1, "b": -1}, {"a": Number(1), "b": Number(1, -1, root=2)},
                        {"a": Number(0, 1, root=2), "b": Number(-1)},
                        {"a": Number(0, 1, root=5), "b": Number(0, -1, root=2)}):
            self.refuses(InvalidHeights, Raised, GOLD, heights)
        self.assertEqual(Raised(ONES, {"a": Number(0, 1, root=2), "b": Number(0), "c": Number(-1)}).area,
                         Number(2, 2, root=2))

    def test_counts(self):
        raised = Raised(GOLD, {"a": Number(1), "b": Number(-2)})
        self.refuses_counts(0, 4000, raised.course_back)


class RoundsTest(CallTest):

    def test_rounds(self):
        done = 0
        for raised in SAMPLES:
            kind, order = round_kind(raised.exchange), raised.exchange.order
            if kind == "even":
                self.assertEqual(self.refuses(Refused, raised.rounded).reason, ("even",))
                continue
            done += 1
            later = raised.rounded()
            winner, loser = (order.above[-1], order.below[-1])[::1 if kind == "upper" else -1]
            told = {name: raised.heights[name] - (raised.heights[loser] if name == winner else 0) for name in order}
            self.assertEqual((later.exchange, later.heights), (rounded(raised.exchange), told))
            self.assertEqual((later.area, later.back_kind), (raised.area, kind))
            self.assertEqual(later.rounded_back(), raised)
            self.assertEqual(later.course_back(1), (kind,))
        self.assertGreater(done, 60)

    def test_rounds_back(self):
        done = 0
        for raised in SAMPLES:
            if raised.back_kind is None:
                self.assertEqual(self.refuses(Refused, raised.rounded_back).reason, ("flat",))
                self.assertEqual(raised.course_back(4000), ())
                continue
            done += 1
            earlier, order = raised.rounded_back(), raised.exchange.order
            self.assertEqual((round_kind(earlier.exchange), earlier.rounded()), (raised.back_kind, raised))
            self.assertEqual(earlier.area, raised.area)
            if raised.back_kind == "upper":
                winner = order.above[-1]
                loser = order.below[order.below.index(winner) + 1]
                rows = (order.above, tuple(name for name in order.below if name != loser) + (loser,))
            else:
                winner = order.below[-1]
                loser = order.above[order.above.index(winner) + 1]
                rows = (tuple(name for name in order.above if name != loser) + (loser,), order.below)
            self.assertEqual(earlier.exchange.order, Order(*rows))
            for told, found in ((raised.heights, earlier.heights), (raised.exchange.lengths, earlier.exchange.lengths)):
                self.assertEqual(found, {name: told[name] + (told[loser] if name == winner else 0) for name in order})
        self.assertGreater(done, 60)

    def test_courses_back(self):
        flat = 0
        for raised in SAMPLES:
            kinds, one = [], raised
            while one.back_kind is not None and len(kinds) < 12:
                kinds.append(one.back_kind)
                one = one.rounded_back()
            for many in (0, 1, 5, 12):
                self.assertEqual(raised.course_back(many), tuple(kinds[:many]))
            flat += len(kinds) < 12
            # What is done back is the course ahead, read backwards.
            self.assertEqual(course_of(one.exchange, len(kinds)), tuple(kinds[::-1]))
            if len(kinds) < 12:
                self.assertEqual(raised.course_back(4000), tuple(kinds))
        self.assertGreater(flat, 5)

    def test_longest_courses_back(self):
        raised = Raised(GOLD, {"a": Number(1, 1, root=5), "b": Number(-2)})
        course = raised.course_back(4000)
        self.assertEqual((len(course), set(course)), (4000, {"upper", "lower"}))
        self.assertEqual(raised.course_back(7), course[:7])
        self.refuses_count(4001, raised.course_back, 4001)
        order = Raised(Exchange(HUGE, {name: Number(1) for name in HUGE}), heights_of(HUGE))
        self.assertEqual((order.back_kind, order.course_back(4000)), (None, ()))

    def test_even_rounds_and_flat_heights(self):
        for one in (SPLIT, ONES):
            raised = Raised(one, heights_of(one.order))
            self.assertEqual(self.refuses(Refused, raised.rounded).reason, ("even",))
            self.assertEqual(self.refuses(Refused, raised.rounded_back).reason, ("flat",))
            self.assertEqual(raised.course_back(0), ())

    def test_columns(self):
        for raised in SAMPLES:
            one, kinds = raised, []
            while len(kinds) < 6 and round_kind(one.exchange) != "even":
                kinds.append(round_kind(one.exchange))
                one = one.rounded()
            found = columns(raised.exchange.order, tuple(kinds))
            for name in one.exchange:
                told = total_of(raised.rises[other] * found[name][other] for other in found)
                self.assertEqual(one.rises[name], told)
                told = total_of(one.heights[other] * found[other][name] for other in found)
                self.assertEqual(raised.heights[name], told)
            self.assertEqual(one.area, raised.area)

    def test_inverse(self):
        for raised in SAMPLES:
            turned = raised.inverse()
            self.assertEqual(turned.exchange, raised.exchange.inverse())
            self.assertEqual(turned.heights, {name: -height for name, height in raised.heights.items()})
            self.assertEqual((turned.rises, turned.area, turned.inverse()), (raised.rises, raised.area, raised))
            self.assertEqual(turned.back_kind, FLIPPED[raised.back_kind])
            if round_kind(raised.exchange) != "even":
                self.assertEqual(turned.rounded(), raised.rounded().inverse())
                self.assertEqual(round_kind(turned.exchange), FLIPPED[round_kind(raised.exchange)])
            if raised.back_kind is not None:
                self.assertEqual(turned.rounded_back(), raised.rounded_back().inverse())
            self.assertEqual(turned.course_back(5), tuple(FLIPPED[kind] for kind in raised.course_back(5)))

    def test_area_of_long_courses(self):
        raised = Raised(FOUR, random_heights(FOUR.order, 5))
        one = raised
        for _ in range(32):
            one = one.rounded()
        self.assertEqual((one.area, one.course_back(32)), (raised.area, course_of(FOUR, 32)[::-1]))


if __name__ == "__main__":
    unittest.main()
