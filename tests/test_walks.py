"""Stage 12: walks, and what [0.20] says of joined orders."""

import itertools
import random
import unittest

from pieceround.base.orders import Order, count_orders, each_order
from pieceround.errors import InvalidCourse, InvalidOrder
from pieceround.rounds.rounds import order_behind
from pieceround.walk import walks
from pieceround.walk.walks import (
    are_joined, class_of, is_closed, is_walk, moved, renaming_of, walk_between,
)
from tests.models import names_with
from tests.samples import ALL_KINDS, CallTest

KINDS = ("lower", "upper")
TURN = Order.read("a b", "b a")
BACK = Order.read("a b c", "c b a")
NOT_WHOLE = [Order.read("a", "a"), Order.read("a b", "a b"), Order.read("a b c", "b a c"), Order.read("b a c", "b c a")]
SMALL = [order for many in (2, 3, 4) for order in each_order(many)]


def reversed_order(many):
    return Order(names_with(many), names_with(many)[::-1])


def random_whole(many, source):
    """A whole order with so many names."""
    while True:
        upper, lower = source.sample(names_with(many), many), source.sample(names_with(many), many)
        order = Order(tuple(upper), tuple(lower))
        if order.is_whole:
            return order


SOURCE = random.Random(12)
WHOLE = SMALL + [random_whole(many, SOURCE) for many in (5, 5, 6, 6, 7, 7)]
LARGE = [random_whole(many, SOURCE) for many in (8, 9, 13, 40)] + [reversed_order(40), reversed_order(8)]


def joined_places(order):
    """All places to which walks lead, with how many rounds they need, found by rounds of orders."""
    found, front = {order.places: 0}, [order]
    while front:
        behind = [order_behind(one, (kind,)) for one in front for kind in KINDS]
        far = 1 + max(found.values())
        front = [one for one in behind if one.places not in found]
        found.update((one.places, far) for one in front)
    return found


class MovedTest(CallTest):

    def test_constant(self):
        self.assertEqual(walks.MAX_WALKED, 7)

    def test_rounds_of_orders(self):
        for order in WHOLE + LARGE:
            for kind in KINDS:
                self.assertEqual(moved(order.places, kind), order_behind(order, (kind,)).places)

    def test_different_places_are_led_to_different_ones(self):
        for many in (2, 3, 4, 5):
            rows = [order.places for order in each_order(many)]
            for kind in KINDS:
                self.assertEqual(sorted(moved(places, kind) for places in rows), rows)

    def test_names_do_not_matter(self):
        order = BACK.renamed({"a": "z", "b": "a", "c": "bb"})
        for course in itertools.product(KINDS, repeat=4):
            self.assertEqual(order_behind(order, course).places, order_behind(BACK, course).places)

    def test_forty_names(self):
        order = LARGE[3]
        for kind in KINDS * 20:
            places = moved(order.places, kind)
            order = order_behind(order, (kind,))
            self.assertEqual(places, order.places)

    def test_wrong_arguments(self):
        for kind in ("upper", "even", None):
            self.refuses_all(InvalidOrder, moved, behind=(kind,))
            wrong = [
                (), (0,), (0, 1), (1, 0, 2), (0, 2, 1), (1, 1), (2, 0), (1, 2), (-1, 0), [1, 0], (1, 0, None),
                (True, False), (1, False), (True, 0), (2, True, 0), ((1,), (0,)), ("b", "a"), (1, "a"),
                tuple(range(41))[::-1], (10 ** 60, 0), (1, 0, 1),
            ]
            for places in wrong:
                self.refuses(InvalidOrder, moved, places, kind)
        self.refuses_all(InvalidCourse, moved, (1, 0))
        for kind in ("even", "Upper", ("upper",), "upper ", b"upper"):
            self.refuses(InvalidCourse, moved, BACK.places, kind)


class ClassTest(CallTest):

    def test_classes(self):
        for order in WHOLE:
            self.assertEqual(class_of(order), tuple(sorted(joined_places(order))))
            self.assertIn(order.places, class_of(order))

    def test_class_of_all_its_orders(self):
        for order in SMALL:
            for places in class_of(order):
                lower = tuple(order.above[places.index(index)] for index in range(len(order)))
                self.assertEqual(class_of(Order(order.above, lower)), class_of(order))

    def test_sizes(self):
        smallest = []
        for many in range(2, 8):
            self.assertEqual(len(class_of(reversed_order(many))), 2 ** (many - 1) - 1)
            left, sizes = {order.places: order for order in each_order(many)}, []
            while left:
                found = class_of(next(iter(left.values())))
                sizes.append(len(found))
                for places in found:
                    del left[places]
            self.assertEqual(sum(sizes), count_orders(many))
            smallest.append(min(sizes))
        self.assertEqual(smallest, [1, 3, 6, 10, 15, 21])

    def test_wrong_arguments(self):
        self.refuses_all(InvalidOrder, class_of, but=[value for value in ALL_KINDS if isinstance(value, Order)])
        for order in NOT_WHOLE + [Order(names_with(8), names_with(8))]:
            self.refuses(InvalidOrder, class_of, order)
        for order in LARGE:
            self.refuses_many(7, class_of, order)
        self.assertEqual(len(class_of(WHOLE[-1])[0]), 7)


class JoinedTest(CallTest):

    def test_walks_with_the_fewest_rounds(self):
        for one in WHOLE:
            told = joined_places(one)
            others = SMALL if len(one) < 5 else [other for other in WHOLE if len(other) >= 5]
            for other in others:
                found = walk_between(one, other)
                self.assertIs(are_joined(one, other), other.places in told)
                self.assertEqual(found is None, other.places not in told)
                if found is not None:
                    self.assertEqual(len(found), told[other.places])
                    self.assertEqual(order_behind(one, found).places, other.places)
                    self.assertIs(is_walk(one, other, found), True)

    def test_walks_back(self):
        # If a walk leads to the places of another order, another walk leads back.
        for one, other in itertools.product(SMALL, repeat=2):
            self.assertIs(are_joined(one, other), are_joined(other, one))

    def test_itself_and_other_names(self):
        for order in WHOLE:
            self.assertEqual(walk_between(order, order), ())
            other = order.renamed(dict(zip(order.names, names_with(40)[40 - len(order):])))
            self.assertEqual((walk_between(order, other), are_joined(order, other)), ((), True))

    def test_other_numbers_of_names(self):
        told = (walk_between(TURN, BACK), are_joined(TURN, BACK), are_joined(BACK, TURN))
        self.assertEqual(told, (None, False, False))
        self.assertIs(is_walk(TURN, BACK, ()), False)
        self.assertIs(is_walk(TURN, BACK, ("upper",)), False)

    def test_wrong_arguments(self):
        whole = [value for value in ALL_KINDS if isinstance(value, Order) and value.is_whole]
        for call in (are_joined, walk_between):
            for other in (BACK, LARGE[0], None):
                self.refuses_all(InvalidOrder, call, but=whole, behind=(other,))
            for one in (BACK, LARGE[0]):
                self.refuses_all(InvalidOrder, call, one, but=whole)
                for order in NOT_WHOLE:
                    self.refuses(InvalidOrder, call, one, order)
                    self.refuses(InvalidOrder, call, order, one)
            for order in LARGE:
                self.refuses_many(7, call, order, TURN)
                self.refuses_many(7, call, TURN, order)
                self.refuses_many(7, call, order, order)


class IsWalkTest(CallTest):

    def test_all_short_courses(self):
        for one, other in itertools.product(SMALL, repeat=2):
            for many in range(4):
                for course in itertools.product(KINDS, repeat=many):
                    told = order_behind(one, course).places == other.places
                    self.assertIs(is_walk(one, other, course), told)

    def test_values(self):
        for value in ALL_KINDS:
            self.assertIs(is_walk(BACK, BACK, value), value == () and isinstance(value, tuple))
        for value in (("even",), ("upper", "even"), ["lower"] * 3, ("lower", "lower", True), ("lower",), "lower"):
            self.assertIs(is_walk(BACK, BACK, value), False)
        self.assertIs(is_walk(BACK, BACK, ("lower",) * 2), True)
        self.assertIs(is_walk(BACK, BACK, ("lower",) * 3), False)
        self.assertIs(is_walk(TURN, TURN, ("lower", "upper") * 2000), True)
        self.assertIs(is_walk(TURN, TURN, ("lower", "upper") * 2000 + ("lower",)), False)

    def test_many_names(self):
        for order in LARGE:
            course = tuple(SOURCE.choice(KINDS) for _ in range(300))
            behind = order_behind(order, course)
            self.assertIs(is_walk(order, behind, course), True)
            self.assertIs(is_walk(order, order_behind(behind, ("upper",)), course), False)
        # The lower kind, done as often as there are names but one, leads reversed places to themselves.
        self.assertIs(is_walk(LARGE[4], LARGE[4], ("lower",) * 39), True)
        self.assertIs(is_walk(LARGE[4], LARGE[4], ("lower",) * 38), False)

    def test_wrong_arguments(self):
        whole = [value for value in ALL_KINDS if isinstance(value, Order) and value.is_whole]
        for value in ((), None):
            self.refuses_all(InvalidOrder, is_walk, but=whole, behind=(BACK, value))
            self.refuses_all(InvalidOrder, is_walk, BACK, but=whole, behind=(value,))
            self.refuses_all(InvalidOrder, is_walk, but=whole, behind=(None, value))
            for order in NOT_WHOLE:
                self.refuses(InvalidOrder, is_walk, order, BACK, value)
                self.refuses(InvalidOrder, is_walk, BACK, order, value)


class ClosedTest(CallTest):

    def test_unions_of_classes(self):
        for many in (2, 3, 4):
            found = sorted({class_of(order) for order in each_order(many)})
            for size in range(1, len(found) + 1):
                for rows in itertools.combinations(found, size):
                    value = tuple(sorted(places for row in rows for places in row))
                    self.assertIs(is_closed(many, value), True)
                    for index in range(len(value)):
                        # One place less, and one place changed.
                        self.assertIs(is_closed(many, value[:index] + value[index + 1:]), False)
                        other = value[:index] + (value[index][::-1],) + value[index + 1:]
                        self.assertIs(is_closed(many, other), tuple(sorted(set(other))) == other == value)
                    self.assertIs(is_closed(many, value + value), False)
                    self.assertIs(is_closed(many, value[::-1]), len(value) == 1)
                    self.assertIs(is_closed(many, list(value)), False)
                    self.assertIs(is_closed(many, tuple(list(places) for places in value)), False)
                    for order in each_order(many):
                        if order.places not in value:
                            self.assertIs(is_closed(many, tuple(sorted((*value, order.places)))), False)

    def test_seven_names(self):
        value = class_of(reversed_order(7))
        self.assertIs(is_closed(7, value), True)
        self.assertIs(is_closed(6, value), False)
        self.assertIs(is_closed(7, value[1:]), False)
        every = tuple(order.places for order in each_order(7))
        self.assertIs(is_closed(7, every), True)
        self.assertIs(is_closed(7, tuple(sorted(set(every) - set(value)))), True)

    def test_joined_orders_and_closed_tuples(self):
        # Two orders are not joined exactly if some closed tuple has the places of just one of them.
        found = sorted({class_of(order) for order in each_order(4)})
        for one, other in itertools.product(each_order(4), repeat=2):
            apart = [value for value in found if (one.places in value) != (other.places in value)]
            self.assertIs(are_joined(one, other), not apart)
            self.assertTrue(all(is_closed(4, value) for value in apart))

    def test_values(self):
        for many in range(2, 8):
            for value in ALL_KINDS:
                self.assertIs(is_closed(many, value), False)
        # A row of two names that True and False make is none.
        for value in (((True, False),), ((1, False),), ((1, 0), (1, 0)), ((0, 1),), ((0, 1), (1, 0)), (1, 0), ((),)):
            self.assertIs(is_closed(2, value), False)
        self.assertIs(is_closed(2, ((1, 0),)), True)
        # What is no whole order can be led among itself as well.
        self.assertIs(is_closed(3, ((0, 2, 1), (1, 2, 0), (2, 0, 1), (2, 1, 0))), False)

    def test_wrong_arguments(self):
        def judged(many):
            return is_closed(many, None)
        self.refuses_counts(2, 7, judged)
        self.refuses_count(8, is_closed, 8, ())


class RenamingTest(CallTest):

    def test_definition(self):
        for order in SMALL:
            for many in range(6):
                for course in itertools.product(KINDS, repeat=many):
                    behind, found = order_behind(order, course), renaming_of(order, course)
                    if behind.places != order.places:
                        self.assertIsNone(found)
                    else:
                        told = {name: behind.above[order.above.index(name)] for name in sorted(order.above)}
                        self.assertEqual(list(found.items()), list(told.items()))
                        self.assertEqual(order.renamed(found), behind)

    def test_reversed_orders_keep_their_names(self):
        for many in (2, 3, 4, 5):
            order, found = reversed_order(many), 0
            for rounds in range(9):
                for course in itertools.product(KINDS, repeat=rounds):
                    renaming = renaming_of(order, course)
                    if renaming is not None:
                        self.assertEqual(renaming, {name: name for name in order})
                        found += 1
            self.assertGreater(found, 10)

    def test_many_names(self):
        order = reversed_order(40)
        self.assertEqual(renaming_of(order, ("lower",) * 39), {name: name for name in sorted(order)})
        self.assertIsNone(renaming_of(order, ("lower",) * 38))
        self.assertEqual(renaming_of(LARGE[3], ()), {name: name for name in LARGE[3]})
        self.assertEqual(renaming_of(TURN, ("upper",) * 4000), {"a": "a", "b": "b"})

    def test_wrong_arguments(self):
        whole = [value for value in ALL_KINDS if isinstance(value, Order) and value.is_whole]
        for course in ((), None, ("even",)):
            self.refuses_all(InvalidOrder, renaming_of, but=whole, behind=(course,))
            for order in NOT_WHOLE:
                self.refuses(InvalidOrder, renaming_of, order, course)
        empty = [value for value in ALL_KINDS if isinstance(value, tuple) and value == ()]
        self.refuses_all(InvalidCourse, renaming_of, BACK, but=empty)
        for course in (("even",), ("upper", "even"), ["upper"], "upper", ("upper",) * 4001, ("upper", 1)):
            self.refuses(InvalidCourse, renaming_of, BACK, course)


if __name__ == "__main__":
    unittest.main()
