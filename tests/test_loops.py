"""Stage 7: loops, and what [0.16] says of them."""

import itertools
import time
import types
import unittest

from pieceround.base.numbers import Number
from pieceround.base.orders import Order, each_order
from pieceround.errors import InvalidCourse, InvalidOperation, InvalidOrder
from pieceround.piece.exchanges import Exchange
from pieceround.rounds import loops
from pieceround.rounds.loops import is_loop, is_winner_of_all, loop_exchange, loop_share, loops_of
from pieceround.rounds.parts import parts_of, reading_of
from pieceround.rounds.rounds import columns, order_behind, rounded_by
from tests.models import FOUR, GOLD, NAMED, OTHERS, names_with, random_exchanges, reversed_exchange
from tests.samples import ALL_KINDS, ORDERS, CallTest

TURN = Order.read("a b", "b a")
BACK = Order.read("a b c", "c b a")
NOT_WHOLE = [Order.read("a", "a"), Order.read("a b", "a b"), Order.read("a b c", "b a c")]
SMALL_ORDERS = [order for many in (2, 3, 4) for order in each_order(many)]
# A loop of the reversed order with eight names, of just 24 rounds.
EIGHT = Order(names_with(8), names_with(8)[::-1])
LONGEST = tuple({"l": "lower", "u": "upper"}[letter] for letter in "lllluululluluuuulluluulu")


def walks(many):
    return itertools.product(("lower", "upper"), repeat=many)


def winners_of(order, course):
    found = set()
    for kind in course:
        found.add(order.above[-1] if kind == "upper" else order.below[-1])
        order = order_behind(order, (kind,))
    return found


def is_loop_by_definition(order, course):
    return (order.is_whole and course != () and "even" not in course and order_behind(order, course) == order
            and winners_of(order, course) == set(order))


def share_as_float(order, course):
    """The greatest number by which the columns of the loop multiply some lengths."""
    found, vector = columns(order, course), {name: 1.0 for name in order}
    factor = 0.0
    for _ in range(400):
        image = {name: sum(found[other][name] * vector[other] for other in order) for name in order}
        factor = sum(image.values())
        vector = {name: image[name] / factor for name in order}
    return factor


def root_of(square):
    """The integer without squares that leaves a square of the given one."""
    for divisor in range(2, square):
        while square % (divisor * divisor) == 0:
            square //= divisor * divisor
        if divisor * divisor > square:
            break
    return square


SMALL_LOOPS = [(order, course) for order in SMALL_ORDERS for many in range(1, 9) for course in loops_of(order, many)]


class JudgeTest(CallTest):

    def test_constants(self):
        self.assertEqual((loops.MAX_LOOP, loops.MAX_LOOP_NAMES), (24, 8))

    def test_definition(self):
        for order in SMALL_ORDERS:
            for many in range(6):
                for course in walks(many):
                    self.assertIs(is_loop(order, course), is_loop_by_definition(order, course))
                    self.assertIs(is_winner_of_all(order, course), winners_of(order, course) == set(order))

    def test_no_loops(self):
        for order in [*NOT_WHOLE, TURN, BACK]:
            self.assertIs(is_loop(order, ()), False)
        self.assertIs(is_loop(TURN, ("even",)), False)
        self.assertIs(is_loop(BACK, ("upper", "lower", "even")), False)
        self.assertIs(is_loop(BACK, ("lower", "lower")), False)
        # It leads back to the order, and a name of the middle does not win.
        self.assertEqual(order_behind(BACK, ("lower", "lower", "upper", "upper")), BACK)
        self.assertIs(is_loop(BACK, ("lower", "lower", "upper", "upper")), False)
        self.assertIs(is_winner_of_all(BACK, ("lower", "lower", "upper", "upper")), False)
        # It leads to the places of the order, and the names are others.
        order = Order.read("a b c d", "d b c a")
        course = ("upper", "upper", "lower", "upper", "lower")
        self.assertEqual(order_behind(order, course).places, order.places)
        self.assertIs(is_loop(order, course), False)
        self.assertIs(is_winner_of_all(TURN, ()), False)

    def test_long_courses(self):
        self.assertIs(is_loop(TURN, ("lower", "upper") * 2000), True)
        self.assertIs(is_winner_of_all(TURN, ("lower", "upper") * 2000), True)
        self.assertIs(is_loop(EIGHT, LONGEST), True)

    def test_wrong_arguments(self):
        for call in (is_winner_of_all, is_loop, loop_share, loop_exchange):
            for course in (("lower", "upper"), (), None, ("x",)):
                self.refuses_all(InvalidOrder, call, but=ORDERS, behind=(course,))
            for order in (TURN, BACK, Order.read("a", "a")):
                self.refuses_all(InvalidCourse, call, order, but=[value for value in ALL_KINDS if value == ()])
                for course in (["lower"], ("lower", "Upper"), ("lower", 1), ("lower",) * 4001, "lower",
                               ("even", "even"), ("even", "lower")):
                    self.refuses(InvalidCourse, call, order, course)
            for order in NOT_WHOLE:
                self.refuses(InvalidCourse, call, order, ("lower",))
        for order in NOT_WHOLE:
            self.refuses(InvalidOperation, is_winner_of_all, order, ())
        for order in (TURN, BACK):
            self.refuses(InvalidOperation, is_winner_of_all, order, ("upper", "even"))


class ShareTest(CallTest):

    def test_shares_and_lengths(self):
        self.assertGreater(len(SMALL_LOOPS), 700)
        found = [loop_share(order, course) for order, course in SMALL_LOOPS]
        self.assertGreater(found.count(None), 30)
        for (order, course), share in zip(SMALL_LOOPS, found):
            factor = share_as_float(order, course)
            whole = factor + 1 / factor
            is_told = abs(whole - round(whole)) < 1e-6 and root_of(round(whole) ** 2 - 4) <= 999
            self.assertIs(share is not None, is_told, (str(order), course))
            one = loop_exchange(order, course)
            if share is None:
                self.assertIsNone(one)
                continue
            self.assertEqual((share.norm, share + share.mirror), (Number(1), Number(round(whole))))
            self.assertGreaterEqual(round(whole), 3)
            self.assertEqual(share.compared(1), 1)
            self.assertEqual((one.order, one.lengths[order.above[0]]), (order, Number(1)))
            self.assertEqual(rounded_by(one, course).scaled(share), one)

    def test_two_and_three_names(self):
        # Here the sum of the share and of 1 divided by it always is an integer: only the root can be too great.
        for order, course in SMALL_LOOPS:
            if len(order) < 4:
                factor = share_as_float(order, course)
                whole = round(factor + 1 / factor)
                self.assertIs(loop_share(order, course) is None, root_of(whole * whole - 4) > 999)

    def test_greatest_roots(self):
        # The course "lower" x times, then "upper" y times has the sum x y + 2.
        told = {}
        for x, y in itertools.combinations_with_replacement(range(1, 13), 2):
            whole = x * y + 2
            share = loop_share(TURN, ("lower",) * x + ("upper",) * y)
            told[(x, y)] = root_of(whole * whole - 4)
            self.assertIs(share is None, told[(x, y)] > 999)
            if share is not None:
                self.assertEqual((share.root, share + share.mirror), (told[(x, y)], Number(whole)))
        self.assertTrue(any(930 <= root <= 999 for root in told.values()), sorted(told.values()))
        self.assertTrue(any(999 < root < 1130 for root in told.values()), sorted(told.values()))

    def test_higher_degree(self):
        found = [(order, course) for order, course in SMALL_LOOPS if len(order) == 4
                 and loop_share(order, course) is None]
        for order, course in found:
            factor = share_as_float(order, course)
            whole = factor + 1 / factor
            self.assertTrue(abs(whole - round(whole)) > 1e-6 or root_of(round(whole) ** 2 - 4) > 999)
        self.assertTrue(any(abs(share_as_float(*one) % 1) > 1e-6 for one in found))

    def test_bounds(self):
        self.assertEqual(str(loop_share(TURN, ("lower",) + ("upper",) * 23)), "(25+3r69)/2")
        for call in (loop_share, loop_exchange):
            self.refuses_many(24, call, TURN, ("lower",) + ("upper",) * 24)
            self.refuses_many(24, call, EIGHT, LONGEST * 2)
            # This one is no loop, however long it is, and however many names there are.
            self.refuses(InvalidOperation, call, TURN, ("upper",) * 25)
            self.refuses(InvalidOperation, call, Order(names_with(9), names_with(9)[::-1]), ("upper",) * 25)
            self.refuses(InvalidOperation, call, TURN, ())
            self.refuses(InvalidOperation, call, TURN, ("even",))
            for order in NOT_WHOLE:
                self.refuses(InvalidOperation, call, order, ())

    def test_eight_names_and_nine(self):
        share, one = loop_share(EIGHT, LONGEST), loop_exchange(EIGHT, LONGEST)
        factor = share_as_float(EIGHT, LONGEST)
        whole = factor + 1 / factor
        self.assertIs(share is None, abs(whole - round(whole)) > 1e-6 or root_of(round(whole) ** 2 - 4) > 999)
        if one is not None:
            self.assertEqual(rounded_by(one, LONGEST).scaled(share), one)
        texts = ("1+1r2", "1", "1+2r2", "1+2r2", "1", "1", "1+2r2", "1+2r2", "2")
        nine = reversed_exchange([Number.read(text) for text in texts])
        part, = parts_of(nine, reading_of(nine))
        self.assertEqual((len(part.order), part.is_loop), (9, True))
        self.assertIs(is_loop(part.order, part.loop), True)
        self.assertGreater(len(part.loop), 24)
        self.refuses_many(8, loop_share, part.order, part.loop)
        self.refuses_many(8, loop_exchange, part.order, part.loop)


class LawsTest(CallTest):

    def test_several_times(self):
        for order, course in SMALL_LOOPS:
            if len(course) <= 6:
                share, one = loop_share(order, course), loop_exchange(order, course)
                for many in (2, 3):
                    self.assertIs(is_loop(order, course * many), True)
                    told = loop_share(order, course * many)
                    if share is None:
                        self.assertIsNone(told)
                    else:
                        self.assertEqual(told, share * share if many == 2 else share * share * share)
                        self.assertEqual(loop_exchange(order, course * many), one)

    def test_begun_at_another_round(self):
        for order, course in SMALL_LOOPS:
            if len(course) <= 6:
                for many in range(1, len(course)):
                    behind, turned = order_behind(order, course[:many]), course[many:] + course[:many]
                    self.assertIs(is_loop(behind, turned), True)
                    self.assertEqual(loop_share(behind, turned), loop_share(order, course))

    def test_kinds_exchanged(self):
        swap = {"upper": "lower", "lower": "upper"}
        for order, course in SMALL_LOOPS:
            turned = tuple(swap[kind] for kind in course)
            self.assertIs(is_loop(order.inverse(), turned), True)
            if len(course) <= 6:
                self.assertEqual(loop_share(order.inverse(), turned), loop_share(order, course))
                one, other = loop_exchange(order, course), loop_exchange(order.inverse(), turned)
                if one is not None:
                    first = other.lengths[order.above[0]]
                    self.assertEqual({name: other.lengths[name].over(first) for name in other}, one.lengths)

    def test_columns_of_many_loops(self):
        for order, course in SMALL_LOOPS:
            if len(course) <= 6:
                found = columns(order, course * (2 * len(order) - 3))
                self.assertTrue(all(many > 0 for column in found.values() for many in column.values()))

    def test_loops_of_readings(self):
        for one in [*NAMED, *OTHERS, *random_exchanges(60, 7)]:
            try:
                reading = reading_of(one, most=300)
            except OverflowError:
                continue
            for part in parts_of(one, reading):
                if part.is_loop:
                    self.assertIs(is_loop(part.order, part.loop), True)
                    if len(part.loop) <= 24:
                        self.assertEqual(loop_share(part.order, part.loop), part.share)
                        first = part.lengths[part.order.above[0]]
                        told = Exchange(part.order, part.lengths).scaled(Number(1).over(first))
                        self.assertEqual(loop_exchange(part.order, part.loop), told)

    def test_readings_of_loops(self):
        for order, course in SMALL_LOOPS:
            one = loop_exchange(order, course)
            if one is not None:
                (word, lead, least), = reading_of(one)
                self.assertEqual((word, lead), ("loop", ()))
                self.assertEqual(least * (len(course) // len(least)), course)
        one = loop_exchange(TURN, ("lower", "upper") * 5)
        self.assertEqual(reading_of(one), (("loop", (), ("lower", "upper")),))
        self.assertEqual(loop_exchange(FOUR.order, reading_of(FOUR)[0][2]).scaled(FOUR.lengths["a"]), FOUR)
        self.assertEqual(loop_exchange(TURN, ("lower", "upper")).scaled(GOLD.lengths["a"]), GOLD)


class ListTest(CallTest):

    def test_all_loops(self):
        for order in SMALL_ORDERS:
            for many in range(1, 7):
                told = [course for course in walks(many) if is_loop_by_definition(order, course)]
                self.assertEqual(list(loops_of(order, many)), sorted(told))

    def test_most_rounds(self):
        found = list(loops_of(TURN, 12))
        self.assertEqual((len(found), found[0][:-1], len(found[-1])), (4094, ("lower",) * 11, 12))
        self.assertEqual(list(loops_of(EIGHT, 6)), [])

    def test_twelve_rounds(self):
        # Each course of two names is a loop, but those in which one name wins alone.
        told = [course for course in itertools.product(("lower", "upper"), repeat=12) if len(set(course)) == 2]
        self.assertEqual(list(loops_of(TURN, 12)), told)
        self.assertEqual(list(loops_of(Order.read("z a", "a z"), 12)), told)
        for order in (BACK, Order.read("b d a c", "c a d b"), Order.read("a b c d e", "e c b d a")):
            for many in (9, 12):
                found = list(loops_of(order, many))
                told = [course for course in walks(many) if is_loop(order, course)] if many == 9 else sorted(found)
                self.assertEqual(found, told)
                self.assertTrue(all(is_loop(order, course) for course in found))
        # As many as by the definition.
        self.assertEqual(len(list(loops_of(BACK, 12))), sum(is_loop(BACK, course) for course in walks(12)))

    def test_many_names(self):
        order = Order(names_with(40), names_with(40)[::-1])
        self.assertEqual(list(loops_of(order, 12)), [])
        # Loops of five names with twelve rounds, by their first six rounds and their last six.
        order = Order.read("a b c d e", "e d c b a")
        told = [course for course in walks(12) if order_behind(order, course) == order
                and winners_of(order, course) == set(order)]
        self.assertEqual(list(loops_of(order, 12)), told)

    def test_lists_end_soon(self):
        start = time.monotonic()
        for _ in range(20):
            self.assertEqual(len(list(loops_of(TURN, 12))), 4094)
        self.assertLess(time.monotonic() - start, 1)

    def test_equal_lists(self):
        found = loops_of(BACK, 7)
        self.assertEqual([next(found), next(found)], list(loops_of(BACK, 7))[:2])
        self.assertEqual(list(loops_of(BACK, 7))[2:], list(found))

    def test_generator(self):
        found = loops_of(TURN, 2)
        self.assertIsInstance(found, types.GeneratorType)
        self.assertEqual(next(found), ("lower", "upper"))

    def test_wrong_arguments(self):
        def first(order, many):
            return next(loops_of(order, many), None)
        loops_of(None, None)
        self.refuses_all(InvalidOrder, first, but=ORDERS, behind=(1,))
        self.refuses_all(InvalidOrder, first, but=ORDERS, behind=(0,))
        self.refuses_counts(1, 12, first, TURN)
        for order in NOT_WHOLE:
            self.refuses(InvalidOperation, first, order, 1)
            self.refuses_counts(1, 12, first, order)


if __name__ == "__main__":
    unittest.main()
