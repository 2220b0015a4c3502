"""Stage 4: exchanges, and what [0.1] to [0.11] and [3.2], [3.3] say of them."""

import itertools
import unittest

from pieceround.base.numbers import Number
from pieceround.base.orders import Order, each_order
from pieceround.errors import (
    InvalidExchange, InvalidLengths, InvalidNumber, InvalidOperation, InvalidOrder, InvalidPoint,
)
from pieceround.piece import exchanges
from pieceround.piece.exchanges import Exchange, are_same, behind, cut_at, joined, powers
from tests.models import (
    FOUR, GOLD, MIX, NAMED, ONES, OTHERS, SPLIT, half_of, is_in, names_with, points_of, random_exchanges,
    reversed_exchange, step, total_of, way, wrong_points,
)
from tests.samples import ALL_KINDS, EXCHANGES, HUNDRED, NUMBERS, ORDERS, CallTest

ROOT, ONE, TWO = Number(0, 1, root=2), Number(1), Number(2)
TURN = Order.read("a b", "b a")
ALL = NAMED + OTHERS + random_exchanges(40, 4)


def texts(numbers):
    return [str(number) for number in numbers]


class MakingTest(CallTest):

    def test_constants(self):
        self.assertEqual(exchanges.MAX_POWERS, 60)

    def test_order(self):
        for lengths in ({"a": ONE, "b": TWO}, {}, None, 1):
            self.refuses_all(InvalidOrder, Exchange, but=ORDERS, behind=(lengths,))

    def test_lengths(self):
        self.refuses_all(InvalidLengths, Exchange, TURN)
        for lengths in (
            {"a": ONE}, {"a": ONE, "b": TWO, "c": ONE}, {"a": ONE, "c": ONE}, {"a": ONE, "b": 1}, {"a": 1, "b": ONE},
            {"a": ONE, "b": True}, {"a": ONE, "b": None}, {"a": ONE, "b": "1"}, {"a": ONE, "b": Number(0)},
            {"a": -ONE, "b": TWO}, {"a": ONE, "b": Number(1, -1, root=2)}, {"a": ROOT, "b": Number(0, 1, root=3)},
            {"a": ONE, 1: ONE}, {"a": ONE, ("b",): ONE}, {"a": ONE, None: ONE}, {"a": ONE, "B": ONE}, [ONE, TWO],
            (("a", ONE), ("b", ONE)), {"a": (ONE,), "b": (ONE,)}, {"a": {}, "b": []},
        ):
            self.refuses(InvalidLengths, Exchange, TURN, lengths)

    def test_lengths_that_are_no_fractions(self):
        self.assertEqual(Exchange(TURN, {"b": ROOT, "a": Number(7, 1, root=2, bottom=3)}).root, 2)
        self.assertEqual(Exchange(TURN, {"b": ROOT, "a": ONE}).root, 2)
        # The total has no root, but the lengths have one.
        self.assertEqual(Exchange(TURN, {"a": ROOT, "b": TWO - ROOT}).root, 2)
        self.assertEqual(Exchange(TURN, {"a": ONE, "b": TWO}).root, 0)

    def test_long_integers_in_numbers(self):
        self.assertEqual(str(Exchange(TURN, {"a": Number(HUNDRED), "b": ONE}).total), str(HUNDRED + 1))

    def test_read(self):
        told = Exchange.read("b a", "a b", "1r2", "(1+1r2)/2")
        self.assertEqual((told.order.above, told.order.below), (("b", "a"), ("a", "b")))
        self.assertEqual(told.lengths, {"a": Number(1, 1, root=2, bottom=2), "b": ROOT})
        self.assertEqual(texts(Exchange.read("a", "a", "1" * 1000).lengths.values()), ["1" * 1000])

    def test_read_refuses(self):
        for value in ALL_KINDS:
            if value != "a":
                self.refuses(InvalidOrder, Exchange.read, value, "a", "1")
                self.refuses(InvalidOrder, Exchange.read, "a", value, "x")
                self.refuses(InvalidOrder, Exchange.read, value, "a")
            if value not in ("1", "1r5", "7", "1" * 4000):
                self.refuses(InvalidLengths, Exchange.read, "a", "a", value)
                self.refuses(InvalidLengths, Exchange.read, "a b", "b a", "1", value)
                self.refuses(InvalidLengths, Exchange.read, "a b", "b a", value, "1")
        for told in ((), ("1",), ("1", "1", "1"), ("0", "1"), ("1", "-1"), ("1r2", "1r3"), ("1", "2/4"), ("1", " 1"),
                     ("1", "1-1r2"), ("1", "1" * 1001), ("1", "1/0"), (ONE, TWO), (1, 2)):
            self.refuses(InvalidLengths, Exchange.read, "a b", "b a", *told)

    def test_nothing_is_shared(self):
        lengths = {"a": ONE, "b": TWO}
        made = Exchange(TURN, lengths)
        lengths["a"] = TWO
        del lengths["b"]
        for name in ("lengths", "begins", "begins_below", "shifts"):
            told = getattr(made, name)
            kept = dict(told)
            told["a"] = Number(9)
            told["c"] = Number(9)
            self.assertEqual(getattr(made, name), kept)
        self.assertEqual(made.lengths, {"a": ONE, "b": TWO})

    def test_exchanges_never_change(self):
        made = Exchange.read("a b c", "c a b", "1", "2", "3")
        for name in ("order", "lengths", "total", "root", "begins", "begins_below", "shifts", "upper_cuts",
                     "lower_cuts"):
            with self.assertRaises(AttributeError):
                setattr(made, name, ())
        for call in (made.inverse, made.backwards, lambda: joined(made), lambda: behind(made, made)):
            self.assertEqual(call(), call())
        self.assertEqual(str(made), "a b c / c a b: 1, 2, 3")


class PropertiesTest(CallTest):

    def test_definitions(self):
        for one in ALL:
            above, below, lengths = one.order.above, one.order.below, one.lengths
            begins = {name: total_of(lengths[other] for other in above[:above.index(name)]) for name in above}
            lower = {name: total_of(lengths[other] for other in below[:below.index(name)]) for name in above}
            self.assertEqual(one.total, total_of(lengths.values()))
            self.assertEqual((one.begins, one.begins_below), (begins, lower))
            self.assertEqual(one.shifts, {name: lower[name] - begins[name] for name in above})
            self.assertEqual(one.upper_cuts, tuple(begins[name] for name in above[1:]))
            self.assertEqual(one.lower_cuts, tuple(lower[name] for name in below[1:]))
            self.assertEqual(one.root, max(number.root for number in lengths.values()))

    def test_dicts_are_ascending(self):
        one = Exchange.read("c aa b a", "a b aa c", "1", "2", "3", "4")
        for told in (one.lengths, one.begins, one.begins_below, one.shifts):
            self.assertEqual(list(told), ["a", "aa", "b", "c"])
        self.assertEqual(texts(one.lengths.values()), ["4", "2", "3", "1"])

    def test_shifts_are_sums_of_forms(self):
        for one in ALL:
            for name, shift in one.shifts.items():
                told = total_of(one.lengths[other] * one.order.form(name, other) for other in one)
                self.assertEqual(shift, told)

    def test_lengths_times_shifts(self):
        for one in ALL:
            self.assertEqual(total_of(one.lengths[name] * one.shifts[name] for name in one), Number(0))

    def test_one_name(self):
        one = Exchange.read("a", "a", "5/2")
        self.assertEqual((one.upper_cuts, one.lower_cuts, texts(one.shifts.values())), ((), (), ["0"]))

    def test_signs_and_texts(self):
        self.assertEqual((len(FOUR), list(FOUR), tuple(Exchange.read("b a", "a b", "1", "1"))),
                         (4, ["a", "b", "c", "d"], ("b", "a")))
        for value in ALL_KINDS:
            self.assertIs(value in GOLD, value in ("a", "b"))
            self.assertIs(GOLD == value, value is EXCHANGES[0])
            self.assertIs(GOLD != value, value is not EXCHANGES[0])
        for call in (lambda: GOLD[0], lambda: GOLD < GOLD, lambda: GOLD + GOLD, lambda: -GOLD):
            self.assertRaises(TypeError, call)

    def test_text(self):
        self.assertEqual(str(Exchange.read("b a", "a b", "1/2", "1")), "b a / a b: 1/2, 1")
        self.assertEqual(str(GOLD), "a b / b a: (1+1r5)/2, 1")
        self.assertEqual(str(Exchange.read("a", "a", "5/2")), "a / a: 5/2")
        self.assertEqual(str(Exchange.read("ab", "ab", "(3-1r5)/2")), "ab / ab: (3-1r5)/2")
        for one in ALL + [reversed_exchange([Number(1 + at, bottom=7) for at in range(40)])]:
            told = ", ".join(str(one.lengths[name]) for name in one.order.above)
            self.assertEqual(str(one), f"{one.order}: {told}")
            rows, lengths = str(one).split(": ")
            self.assertEqual(Exchange.read(*rows.split(" / "), *lengths.split(", ")), one)

    def test_equality(self):
        same = Exchange(Order.read("a b", "b a"), {"b": ONE, "a": Number(1, 1, root=5, bottom=2)})
        self.assertEqual(GOLD, same)
        for other in (
            Exchange.read("a b", "b a", "1", "(1+1r5)/2"), Exchange.read("a b", "a b", "(1+1r5)/2", "1"),
            Exchange.read("a c", "c a", "(1+1r5)/2", "1"), GOLD.inverse(), GOLD.scaled(TWO), GOLD.order, None,
        ):
            self.assertFalse(GOLD == other)
            self.assertTrue(GOLD != other)


class MapTest(CallTest):

    def test_points_go_as_defined(self):
        for one in ALL:
            for point in points_of(one):
                name, image = step(one, point)
                self.assertEqual((one.piece_at(point), one(point), one.back(image)), (name, image, point))

    def test_edges(self):
        just_below = Number(6) - Number(1, bottom=10 ** 9)
        three = Exchange.read("a b c", "c a b", "2", "1", "3")
        told = [(three.piece_at(point), str(three(point))) for point in (Number(0), TWO, Number(3))]
        self.assertEqual(told, [("a", "3"), ("b", "5"), ("c", "0")])
        self.assertEqual((three.piece_at(just_below), three(just_below)), ("c", just_below - 3))

    def test_points_with_a_root_in_lengths_without(self):
        three = Exchange.read("a b c", "c a b", "2", "1", "3")
        self.assertEqual(three(ROOT), ROOT + 3)
        self.assertEqual(three.back(ROOT), ROOT + 3)
        self.assertEqual(three.piece_at(Number(0, 1, root=7)), "b")

    def test_wrong_points(self):
        for one in ALL:
            for call in (one, one.back, one.piece_at):
                for point in wrong_points(one):
                    self.refuses(InvalidPoint, call, point)
        for call in (GOLD, GOLD.back, GOLD.piece_at):
            self.refuses_all(InvalidPoint, call, but=NUMBERS)
            self.refuses(InvalidPoint, call, 0)
            self.refuses(InvalidPoint, call, 1)
            self.refuses(InvalidPoint, call, Number(1, 1, root=2, bottom=10))

    def test_inverse(self):
        for one in ALL:
            back = one.inverse()
            self.assertEqual((back.order, back.lengths, back.inverse()), (one.order.inverse(), one.lengths, one))
            self.assertEqual(back.shifts, {name: -one.shifts[name] for name in one})
            for point in points_of(one):
                self.assertEqual((back(point), back.back(point)), (one.back(point), one(point)))

    def test_backwards(self):
        for one in ALL:
            turned = one.backwards()
            self.assertEqual((turned.order, turned.lengths), (one.order.backwards(), one.lengths))
            for point in points_of(one):
                if point.sign and point not in one.upper_cuts:
                    self.assertEqual(turned(one.total - point), one.total - one(point))

    def test_scaled(self):
        for one in ALL:
            for number in (ONE, Number(3, bottom=7), Number(3, -1, root=one.root, bottom=2) if one.root else TWO):
                told = one.scaled(number)
                self.assertEqual(told.order, one.order)
                self.assertEqual(told.lengths, {name: one.lengths[name] * number for name in one})
        self.assertEqual(ONES.scaled(ROOT).root, 2)

    def test_scaled_refuses(self):
        self.refuses_all(InvalidNumber, GOLD.scaled, but=[one for one in NUMBERS if one.sign > 0])
        for number in (Number(0), -ONE, Number(0, -1, root=5), Number(2, -1, root=5), ROOT, Number(1, 1, root=7)):
            self.refuses(InvalidNumber, GOLD.scaled, number)


class CutTest(CallTest):

    def test_cuts(self):
        for one in ALL:
            points = points_of(one)
            for told in ((), (points[0],), tuple(points[:6]), tuple(points[::-1]), tuple(points[1:3]) * 2):
                cut = cut_at(one, told)
                self.assertTrue({str(point) for point in told} <= {"0", *texts(cut.upper_cuts)})
                self.assertEqual({"0", *texts(cut.upper_cuts)}, {"0", *texts(one.upper_cuts), *texts(told)})
                for point in points:
                    self.assertEqual(cut(point), one(point))

    def test_names_of_the_parts(self):
        told = cut_at(Exchange.read("c a", "a c", "4", "2"), (Number(5), Number(3), ONE, Number(4), ONE, Number(0)))
        self.assertEqual(str(told), "c b d a e / a e c b d: 1, 2, 1, 1, 1")
        self.assertEqual(str(cut_at(GOLD, (ONE,))), "a c b / b a c: 1, (-1+1r5)/2, 1")
        self.assertEqual(cut_at(GOLD, ()), GOLD)
        self.assertEqual(cut_at(GOLD, (Number(0), GOLD.upper_cuts[0])), GOLD)

    def test_points_can_give_a_root(self):
        told = cut_at(ONES, (ROOT, half_of(ROOT)))
        self.assertEqual((str(told), told.root),
                         ("a d b e c / c b e a d: 1r2/2, (2-1r2)/2, -1+1r2, 2-1r2, 1", 2))
        self.refuses(InvalidPoint, cut_at, ONES, (ROOT, Number(0, 1, root=3)))
        self.refuses(InvalidPoint, cut_at, GOLD, (ROOT,))

    def test_wrong_points(self):
        self.refuses_all(InvalidExchange, cut_at, but=EXCHANGES, behind=((),))
        self.refuses_all(InvalidExchange, cut_at, but=EXCHANGES, behind=(1,))
        self.refuses_all(InvalidPoint, cut_at, GOLD, but=[value for value in ALL_KINDS if value in ((), (ONE,))])
        for one in ALL:
            for point in wrong_points(one):
                self.refuses(InvalidPoint, cut_at, one, (point,))
                self.refuses(InvalidPoint, cut_at, one, (Number(0), point))
        self.refuses(InvalidPoint, cut_at, GOLD, [ONE])
        self.refuses(InvalidPoint, cut_at, GOLD, (1,))

    def test_forty_names_and_forty_one(self):
        points = tuple(Number(index, bottom=100) for index in range(1, 40))
        self.assertEqual(len(cut_at(GOLD, points[:38] + points[:5])), 40)
        self.refuses_many(40, cut_at, GOLD, points)
        # What is wrong is told ahead of what is too much.
        self.refuses(InvalidPoint, cut_at, GOLD, points + (Number(9),))
        one = cut_at(GOLD, points[:38])
        self.assertEqual(cut_at(one, points[:38]), one)
        self.refuses_many(40, cut_at, one, (Number(2, bottom=1000),))
        self.assertEqual(set(one.order.above), set(names_with(40)))


class SameTest(CallTest):

    def test_joined(self):
        for one in ALL:
            told = joined(one)
            self.assertEqual((told.order, told.order.needless, told.total), (one.order.joined(), (), one.total))
            for point in points_of(one):
                self.assertEqual(told(point), one(point))
            cut = cut_at(one, tuple(points_of(one)[:5]))
            self.assertEqual(joined(cut).order.places, told.order.places)
            shifts = [told.shifts[name] for name in told]
            self.assertTrue(all(left != right for left, right in zip(shifts, shifts[1:])))
        self.assertEqual(str(joined(Exchange.read("a b c d", "c d a b", "1", "2", "3", "4"))), "a c / c a: 3, 7")
        self.assertEqual(str(joined(Exchange.read("d c b a", "d c b a", "1", "2", "3", "4"))), "d / d: 10")

    def test_are_same(self):
        for one in ALL:
            points = points_of(one)
            self.assertTrue(are_same(one, one))
            self.assertTrue(are_same(cut_at(one, tuple(points[:4])), cut_at(one, tuple(points[2:7]))))
            for other in ALL:
                if one.root == other.root:
                    told = one.total == other.total and all(
                        step(one, point)[1] == step(other, point)[1] for point in points + points_of(other))
                    self.assertIs(are_same(one, other), told)

    def test_what_is_not_the_same(self):
        pairs = [
            (GOLD, GOLD.inverse()), (GOLD, GOLD.scaled(TWO)), (ONES, SPLIT), (GOLD, MIX),
            (Exchange.read("a b", "b a", "1", "1r2"), Exchange.read("a b", "b a", "1", "1r3")),
            (Exchange.read("a b", "b a", "1", "2"), Exchange.read("a b", "b a", "2", "1")),
        ]
        for one, other in pairs:
            self.assertIs(are_same(one, other), False)
            self.assertIs(are_same(other, one), False)
        self.assertIs(are_same(GOLD, Exchange.read("x y", "y x", "(1+1r5)/2", "1")), True)
        # Lengths with unlike roots, and points that all stay where they are.
        one, other = Exchange.read("a b", "a b", "1r2", "3-1r2"), Exchange.read("a b", "a b", "1r3", "3-1r3")
        self.assertIs(are_same(one, other), True)

    def test_wrong_arguments(self):
        self.refuses_all(InvalidExchange, joined, but=EXCHANGES)
        for call in (are_same, behind):
            self.refuses_all(InvalidExchange, call, but=EXCHANGES, behind=(GOLD,))
            self.refuses_all(InvalidExchange, call, but=EXCHANGES, behind=(None,))
            self.refuses_all(InvalidExchange, call, GOLD, but=EXCHANGES)


class BehindTest(CallTest):

    def test_points(self):
        for one in ALL:
            others = [one, one.inverse(), one.backwards(), joined(one)]
            for other in others:
                told = behind(one, other)
                self.assertEqual((told.total, told.order.needless), (one.total, ()))
                self.assertEqual(told.order.above, names_with(len(told)))
                for point in points_of(one) + points_of(told):
                    if one.root == 0 or point.root in (0, one.root):
                        self.assertEqual(told(point), step(other, step(one, point)[1])[1])
            for other in (one.inverse(), cut_at(one, (half_of(one.total),)).inverse()):
                self.assertEqual(str(behind(one, other)), f"a / a: {one.total}")
                self.assertEqual(str(behind(other, one)), f"a / a: {one.total}")

    def test_first_one_then_other(self):
        left, right = Exchange.read("a b c", "b a c", "1", "1", "1"), Exchange.read("a b c", "a c b", "1", "1", "1")
        self.assertEqual([str(behind(left, right)(Number(point))) for point in range(3)], ["2", "0", "1"])
        self.assertEqual([str(behind(right, left)(Number(point))) for point in range(3)], ["1", "2", "0"])

    def test_associative(self):
        for one in ALL:
            two, three = one.inverse().backwards(), one.backwards()
            self.assertEqual(behind(behind(one, two), three), behind(one, behind(two, three)))

    def test_one_root_in_two_exchanges(self):
        one, other = Exchange.read("a b", "b a", "1r2", "3-1r2"), Exchange.read("a b", "b a", "2", "1")
        self.assertEqual(behind(one, other)(ONE), step(other, step(one, ONE)[1])[1])
        self.assertEqual(behind(other, one).root, 2)

    def test_what_does_not_fit(self):
        self.refuses(InvalidOperation, behind, GOLD, ONES)
        self.refuses(InvalidOperation, behind, ONES, ONES.scaled(TWO))
        one, other = Exchange.read("a b", "b a", "1r2", "3-1r2"), Exchange.read("a b", "b a", "1r3", "3-1r3")
        self.refuses(InvalidOperation, behind, one, other)
        self.refuses(InvalidOperation, behind, one, one.scaled(TWO))

    def test_forty_names_and_forty_one(self):
        one = reversed_exchange([Number(100 + index * index) for index in range(21)])
        other = reversed_exchange([Number(length) for length in (
            16, 12, 14, 333, 278, 5, 481, 452, 196, 352, 111, 497, 217, 372, 15, 271, 114, 392, 225, 617)])
        found = behind(one, other)
        self.assertEqual((len(one), len(other), len(found)), (21, 20, 40))
        for point in range(0, one.total.top, 17):
            self.assertEqual(found(Number(point)), other(one(Number(point))))
        self.refuses_many(40, behind, one, one)
        self.refuses(InvalidOperation, behind, one, one.scaled(TWO))

    def test_pieces_that_join(self):
        # Both together have 79 begins, but the images join again.
        one = reversed_exchange([Number(1 + index) for index in range(40)])
        self.assertEqual(len(behind(one, one.inverse())), 1)


class PowersTest(CallTest):

    def test_points(self):
        for one in ALL:
            told = powers(one, 6)
            self.assertEqual(len(told), 6)
            for point in points_of(one):
                points, _ = way(one, point, 6)
                self.assertEqual([power(point) for power in told], points[1:])
            for power in told:
                self.assertEqual((power.order.above, power.order.needless), (names_with(len(power)), ()))
            self.assertEqual(told[1], behind(one, one))

    def test_first_one_has_new_names(self):
        told = powers(Exchange.read("x b a", "a x b", "1", "2", "3"), 1)
        self.assertEqual([str(one) for one in told], ["a b / b a: 3, 3"])

    def test_counts(self):
        self.assertEqual(len(powers(GOLD, 60)), 60)
        self.assertTrue(all(len(one) <= 2 for one in powers(GOLD, 60)))
        self.refuses_counts(1, 60, powers, GOLD)
        self.refuses_all(InvalidExchange, powers, but=EXCHANGES, behind=(1,))
        self.refuses_all(InvalidExchange, powers, but=EXCHANGES, behind=(0,))

    def test_forty_names_and_forty_one(self):
        # No connections: the number of the pieces grows by one less than the names.
        one = Exchange.read("a b c d", "d c b a", "1", "1", "1", "1r2")
        self.assertEqual([len(power) for power in powers(one, 13)], [3 * many + 1 for many in range(1, 14)])
        self.refuses_many(40, powers, one, 14)
        self.refuses_many(40, powers, one, 60)
        self.refuses_count(61, powers, one, 61)


class SmallTest(CallTest):

    def test_all_small_orders(self):
        for many, numbers in ((2, (ONE, TWO)), (3, (ONE, ROOT))):
            for order in each_order(many):
                for lengths in itertools.product(numbers, repeat=many):
                    one = Exchange(order, dict(zip(order, lengths)))
                    for name in one:
                        begin = one.begins[name]
                        last = begin + one.lengths[name] - Number(1, bottom=10 ** 6)
                        self.assertTrue(is_in(last, begin, begin + one.lengths[name]))
                        self.assertEqual((one.piece_at(begin), one.piece_at(last)), (name, name))
                        self.assertEqual(one(begin), one.begins_below[name])
        self.assertEqual([str(one) for one in (MIX, SPLIT)], ["a b c / c b a: 1+1r2, 1, 1r2", "a b c / c b a: 1, 1r2, 1"])


if __name__ == "__main__":
    unittest.main()
