"""Stage 3: orders, and what [0.2], [0.4], [0.7] and [0.8] say of them."""

import itertools
import math
import types
import unittest

from pieceround.base import orders
from pieceround.base.numbers import Number
from pieceround.base.orders import Order, count_orders, each_order
from pieceround.base.words import nth_name
from pieceround.errors import InvalidCount, InvalidOperation, InvalidOrder, UnknownName
from tests.samples import (
    ALL_KINDS, HUNDRED, INTEGERS, LISTS, NAMES, SIXTY, SIXTY_ONE, CallTest, all_but,
)

FORTY = tuple(nth_name(index) for index in range(40))
FORTY_ONE = tuple(nth_name(index) for index in range(41))


def rows_of(order):
    return order.above, order.below


def all_places(many):
    return list(itertools.permutations(range(many)))


def order_with(places):
    """The order with these places, and names that do not stand in their own order."""
    upper = tuple(nth_name(len(places) - 1 - index) for index in range(len(places)))
    lower = [None] * len(places)
    for name, place in zip(upper, places):
        lower[place] = name
    return Order(upper, tuple(lower))


def small_orders():
    return [order_with(places) for many in range(1, 6) for places in all_places(many)]


def cuts_of(order):
    """The indices at which both rows can be cut, as the definition has it."""
    return [k for k in range(1, len(order) + 1) if set(order.above[:k]) == set(order.below[:k])]


def is_whole_by_definition(places):
    return len(places) >= 2 and not any(set(places[:k]) == set(range(k)) for k in range(1, len(places)))


class MakingTest(CallTest):

    def test_constants(self):
        self.assertEqual((orders.MAX_NAMES, orders.MAX_LISTED), (40, 7))

    def test_rows(self):
        for upper, lower in (
            (("a",), ("a",)), (("a", "b"), ("b", "a")), (("x", "abcdefgh", "b"), ("b", "x", "abcdefgh")),
        ):
            self.assertEqual(rows_of(Order(upper, lower)), (upper, lower))

    def test_forty_names_and_forty_one(self):
        self.assertEqual(rows_of(Order(FORTY, FORTY[::-1])), (FORTY, FORTY[::-1]))
        self.assertEqual(len(Order.read(" ".join(FORTY), " ".join(FORTY))), 40)
        self.refuses(InvalidOrder, Order, FORTY_ONE, FORTY_ONE[::-1])
        self.refuses(InvalidOrder, Order, FORTY_ONE, FORTY)
        self.refuses(InvalidOrder, Order, FORTY, FORTY_ONE)
        self.refuses(InvalidOrder, Order.read, " ".join(FORTY_ONE), " ".join(FORTY_ONE))
        self.refuses(InvalidOrder, Order, (), ())

    def test_rows_that_do_not_fit(self):
        for upper, lower in (
            (("a", "b"), ("a",)), (("a",), ("a", "b")), (("a", "b"), ("a", "c")), (("a", "a"), ("a", "a")),
            (("a", "b"), ("a", "a")), (("a", "a"), ("a", "b")), (("a", "b"), ("a", "b", "b")), (("a",), ("a", "a")),
            (("a", "b", "b"), ("a", "b")), (("a",), ()), ((), ("a",)), (("a", "a", "b"), ("a", "b", "b")),
        ):
            self.refuses(InvalidOrder, Order, upper, lower)

    def test_rows_of_other_kinds(self):
        for value in ALL_KINDS:
            if value != ("a",):
                self.refuses(InvalidOrder, Order, value, ("a",))
                self.refuses(InvalidOrder, Order, ("a",), value)
            if value not in (("a",), ("a", "b")):
                self.refuses(InvalidOrder, Order, value, value)
        self.refuses(InvalidOrder, Order, ["a", "b"], ("b", "a"))
        self.refuses(InvalidOrder, Order, ("a", "b"), ["b", "a"])
        self.refuses(InvalidOrder, Order, ("a", "abcdefghi"), ("abcdefghi", "a"))
        self.refuses(InvalidOrder, Order, ("a", 1), (1, "a"))
        self.refuses(InvalidOrder, Order, ("a", []), ([], "a"))
        self.refuses(InvalidOrder, Order, "ab", "ba")

    def test_read(self):
        self.assertEqual(rows_of(Order.read("a", "a")), (("a",), ("a",)))
        self.assertEqual(rows_of(Order.read("a bc d", "d a bc")), (("a", "bc", "d"), ("d", "a", "bc")))
        self.assertEqual(rows_of(Order.read("abcdefgh x", "x abcdefgh")), (("abcdefgh", "x"), ("x", "abcdefgh")))

    def test_read_refuses(self):
        for text in ("", " ", "a  b", " a b", "a b ", "a\nb", "a\tb", "a,b", "a B", "a 1", "a abcdefghi", "a b\n", "a a",
                     "a b c", "a c", "b"):
            self.refuses(InvalidOrder, Order.read, text, "a b")
            self.refuses(InvalidOrder, Order.read, "a b", text)
        for text in ("", " ", "a a", "a  b", " a", "a ", "A", "abcdefghi", "a\n"):
            self.refuses(InvalidOrder, Order.read, text, text)
        for value in all_but(["a"]):
            self.refuses(InvalidOrder, Order.read, "a", value)
            self.refuses(InvalidOrder, Order.read, value, "a")
        self.refuses(InvalidOrder, Order.read, ("a", "b"), ("b", "a"))
        self.refuses(InvalidOrder, Order.read, ["a"], 1)

    def test_orders_never_change(self):
        order = Order.read("a b c", "c a b")
        for name in ("above", "below", "names", "many", "places", "is_whole", "needless"):
            with self.assertRaises(AttributeError):
                setattr(order, name, ())
        for call in (order.inverse, order.backwards, order.joined, order.blocks):
            self.assertEqual(call(), call())
        order.renamed({"a": "c", "b": "a", "c": "b"})
        self.assertEqual(rows_of(order), (("a", "b", "c"), ("c", "a", "b")))
        self.assertEqual(order.places, (1, 2, 0))


class PropertiesTest(CallTest):

    def test_names_and_places(self):
        order = Order.read("c ab x a", "x c a ab")
        self.assertEqual(order.above, ("c", "ab", "x", "a"))
        self.assertEqual(order.below, ("x", "c", "a", "ab"))
        self.assertEqual(order.names, ("a", "ab", "c", "x"))
        self.assertEqual(order.many, 4)
        self.assertEqual(order.places, (1, 3, 0, 2))

    def test_places_of_all_small_orders(self):
        for many in range(1, 6):
            for places in all_places(many):
                order = order_with(places)
                self.assertEqual(order.places, places)
                self.assertEqual(order.names, tuple(sorted(order.above)))
                self.assertEqual(order.many, many)

    def test_places_tell_an_order_up_to_its_names(self):
        other = Order.read("x y z", "z x y")
        self.assertEqual(other.places, Order.read("a b c", "c a b").places)
        self.assertEqual(other.renamed(dict(zip(other.above, "abc"))), Order.read("a b c", "c a b"))

    def test_is_whole(self):
        for many in range(1, 6):
            for places in all_places(many):
                self.assertIs(order_with(places).is_whole, is_whole_by_definition(places))
        self.assertIs(Order(("a",), ("a",)).is_whole, False)
        self.assertIs(Order(("a", "b"), ("a", "b")).is_whole, False)
        self.assertIs(Order(("a", "b"), ("b", "a")).is_whole, True)
        self.assertIs(Order(FORTY, FORTY[::-1]).is_whole, True)
        self.assertIs(Order(FORTY, FORTY[1::-1] + FORTY[2:]).is_whole, False)

    def test_needless(self):
        cases = [
            ("a", "a", ()), ("a b", "a b", (("a", "b"),)), ("a b", "b a", ()),
            ("a b c", "c a b", (("a", "b"),)), ("a b c", "b c a", (("b", "c"),)),
            ("c b a d", "b a d c", (("b", "a"), ("a", "d"))), ("c d a b", "a b c d", (("c", "d"), ("a", "b"))),
            ("a b c d", "d c b a", ()), ("a b c d", "a c b d", ()),
        ]
        for upper, lower, pairs in cases:
            self.assertEqual(Order.read(upper, lower).needless, pairs)

    def test_needless_pairs_of_all_small_orders(self):
        for order in small_orders():
            behind_below = list(zip(order.below, order.below[1:]))
            pairs = tuple(pair for pair in zip(order.above, order.above[1:]) if pair in behind_below)
            self.assertEqual(order.needless, pairs)


class MethodsTest(CallTest):

    def test_blocks(self):
        for order in small_orders():
            blocks = order.blocks()
            self.assertIs(blocks.__class__, tuple)
            ends = cuts_of(order)
            begins = [0] + ends[:-1]
            rows = [(order.above[b:e], order.below[b:e]) for b, e in zip(begins, ends)]
            self.assertEqual([rows_of(block) for block in blocks], rows)
            for block in blocks:
                self.assertIs(block.__class__, Order)
                self.assertEqual(len(block.blocks()), 1)
                self.assertIs(block.is_whole, len(block) >= 2)

    def test_an_order_is_the_order_of_its_blocks(self):
        for order in small_orders():
            above = sum([block.above for block in order.blocks()], ())
            below = sum([block.below for block in order.blocks()], ())
            self.assertEqual(Order(above, below), order)

    def test_blocks_of_edges(self):
        self.assertEqual([str(block) for block in Order(("a",), ("a",)).blocks()], ["a / a"])
        self.assertEqual(len(Order(FORTY, FORTY).blocks()), 40)
        self.assertEqual(Order(FORTY, FORTY[::-1]).blocks(), (Order(FORTY, FORTY[::-1]),))
        self.assertEqual([str(block) for block in Order.read("c a b d", "c d b a").blocks()], ["c / c", "a b d / d b a"])

    def test_inverse_and_backwards(self):
        order = Order.read("a b c d", "c a d b")
        self.assertEqual(rows_of(order.inverse()), (order.below, order.above))
        self.assertEqual(rows_of(order.backwards()), (("d", "c", "b", "a"), ("b", "d", "a", "c")))
        for order in small_orders():
            self.assertEqual(order.inverse().inverse(), order)
            self.assertEqual(order.backwards().backwards(), order)
            self.assertEqual(order.inverse().backwards(), order.backwards().inverse())
            self.assertIs(order.inverse().is_whole, order.is_whole)

    def test_form(self):
        for order in small_orders():
            for one in order.above:
                for other in order.above:
                    above = order.above.index(one) - order.above.index(other)
                    below = order.below.index(one) - order.below.index(other)
                    expected = 1 if above < 0 < below else -1 if below < 0 < above else 0
                    self.assertEqual(order.form(one, other), expected)
                    self.assertIs(order.form(one, other).__class__, int)
                    self.assertEqual(order.form(other, one), -expected)
                self.assertEqual(order.form(one, one), 0)

    def test_shifts_are_sums_of_forms(self):
        # Each name is as long as a power of two, so no two sums of lengths are equal by chance.
        for order in small_orders():
            lengths = {name: 2 ** index for index, name in enumerate(order.names)}
            for name in order.above:
                begin = sum(lengths[each] for each in order.above[:order.above.index(name)])
                below = sum(lengths[each] for each in order.below[:order.below.index(name)])
                forms = sum(order.form(name, each) * lengths[each] for each in order.above)
                self.assertEqual(below - begin, forms)

    def test_form_of_unknown_names(self):
        order = Order.read("a b", "b a")
        for value in ALL_KINDS:
            if value in ("a", "b"):
                continue
            self.refuses_name(value, order.form, value, "a")
            self.refuses_name(value, order.form, "a", value)
            self.refuses_name(value, order.form, value, value)
            self.refuses_name(value, order.form, value, "d")
            self.refuses_name("d", order.form, "d", value)

    def test_renamed(self):
        order = Order.read("a b c", "c a b")
        names = {"c": "a", "a": "x", "b": "abcdefgh"}
        self.assertEqual(rows_of(order.renamed(names)), (("x", "abcdefgh", "a"), ("a", "x", "abcdefgh")))
        self.assertEqual(list(names.items()), [("c", "a"), ("a", "x"), ("b", "abcdefgh")])
        self.assertEqual(order.renamed({"a": "a", "b": "b", "c": "c"}), order)
        self.assertEqual(order.renamed({"a": "b", "b": "c", "c": "a"}), Order.read("b c a", "a b c"))
        forty = Order(FORTY, FORTY[::-1])
        self.assertEqual(forty.renamed(dict(zip(FORTY, FORTY[::-1]))), forty.inverse())

    def test_renamed_refuses(self):
        order = Order.read("a b", "b a")
        for names in (
            {}, {"a": "x"}, {"a": "x", "b": "x"}, {"a": "x", "b": "y", "c": "z"}, {"a": "x", "c": "y"},
            {"a": "x", "b": 1}, {"a": "x", "b": []}, {"a": "x", "b": None}, {"a": "x", "b": "X"}, {"a": "x", "b": ""},
            {"a": "x", "b": "abcdefghi"}, {"a": "x", 1: "y"}, {"a": "x", None: "y"}, {"a": "x", ("b",): "y"},
            {"a": "x", "b": ("y",)}, {"a": [], "b": []}, {"a": 1, "b": 1}, {"a": True, "b": False},
        ):
            self.refuses(InvalidOperation, order.renamed, names)
        for value in ALL_KINDS:
            self.refuses(InvalidOperation, order.renamed, value)
        for value in all_but(NAMES):
            self.refuses(InvalidOperation, order.renamed, {"a": "x", "b": value})
            self.refuses(InvalidOperation, order.renamed, {"a": value, "b": value})
        self.refuses(InvalidOperation, order.renamed, [("a", "x"), ("b", "y")])
        self.refuses(InvalidOperation, order.renamed, ("x", "y"))

    def test_joined(self):
        cases = [
            ("a", "a", "a / a"), ("a b", "a b", "a / a"), ("a b c", "a b c", "a / a"), ("a b", "b a", "a b / b a"),
            ("a b c", "c a b", "a c / c a"), ("c d a b", "a b c d", "c a / a c"), ("c b a d", "b a d c", "c b / b c"),
            ("a b c d", "a c b d", "a b c d / a c b d"), ("b a d c e", "e c b a d", "b c e / e c b"),
        ]
        for upper, lower, text in cases:
            self.assertEqual(str(Order.read(upper, lower).joined()), text)

    def test_joined_orders_have_no_needless_pair(self):
        for order in small_orders():
            joined = order.joined()
            self.assertEqual(joined.needless, ())
            self.assertEqual(joined.many, order.many - len(order.needless))
            dropped = [second for _, second in order.needless]
            self.assertEqual(joined.above, tuple(name for name in order.above if name not in dropped))
            self.assertEqual(joined.below, tuple(name for name in order.below if name not in dropped))


class SignsTest(CallTest):

    def test_equality(self):
        order = Order.read("a b c", "c a b")
        self.assertIs(order == Order(("a", "b", "c"), ("c", "a", "b")), True)
        self.assertIs(order != Order(("a", "b", "c"), ("c", "a", "b")), False)
        for other in (Order.read("a b c", "c b a"), Order.read("b a c", "c a b"), Order.read("x y z", "z x y"),
                      Order.read("a b", "b a"), order.inverse(), order.backwards()):
            self.assertIs(order == other, False)
            self.assertIs(order != other, True)

    def test_equality_with_all_kinds(self):
        order = Order.read("x y", "y x")
        for value in ALL_KINDS + [rows_of(order), str(order), list(order), order.above]:
            self.assertIs(order == value, False)
            self.assertIs(value == order, False)
            self.assertIs(order != value, True)

    def test_len(self):
        for many in (1, 2, 39, 40):
            self.assertEqual(len(Order(FORTY[:many], FORTY[:many])), many)

    def test_membership(self):
        order = Order.read("b a abcdefgh", "abcdefgh a b")
        for value in ALL_KINDS:
            self.assertIs(value in order, isinstance(value, str) and value in ("b", "a", "abcdefgh"))
        for value in (order.above, order.names, str(order), "b a", "ab", order, list(order)):
            self.assertIs(value in order, False)
            self.assertIs(value not in order, True)

    def test_iteration(self):
        order = Order.read("c a b", "b a c")
        self.assertEqual(list(order), ["c", "a", "b"])
        self.assertEqual([name for name in order], ["c", "a", "b"])
        self.assertEqual(list(Order(FORTY, FORTY[::-1])), list(FORTY))

    def test_text(self):
        self.assertEqual(str(Order(("a",), ("a",))), "a / a")
        self.assertEqual(str(Order.read("c ab x", "x c ab")), "c ab x / x c ab")
        for order in small_orders():
            self.assertEqual(str(order), " ".join((*order.above, "/", *order.below)))
            self.assertEqual(Order.read(*str(order).split(" / ")), order)

    def test_text_of_forty_names(self):
        for upper, lower in ((FORTY, FORTY), (FORTY, FORTY[::-1]), (FORTY[20:] + FORTY[:20], FORTY)):
            order = Order(upper, lower)
            self.assertEqual(str(order), " ".join(upper) + " / " + " ".join(lower))
            self.assertEqual(rows_of(order), (upper, lower))
        names = tuple("abcdef" + nth_name(100 + index) for index in range(40))
        self.assertEqual(str(Order(names, names)), f"{' '.join(names)} / {' '.join(names)}")

    def test_operators_of_numbers_refuse_orders(self):
        with self.assertRaises(TypeError):
            Number(1) + Order(("a",), ("a",))


class EachOrderTest(CallTest):

    def test_all_by_ascending_places(self):
        for many in range(2, 8):
            expected = [places for places in all_places(many) if is_whole_by_definition(places)]
            told = list(each_order(many))
            self.assertEqual([order.places for order in told], expected)
            upper = tuple("abcdefg"[:many])
            self.assertEqual({order.above for order in told}, {upper})
            self.assertEqual(len(told), count_orders(many))
            self.assertTrue(all(order.__class__ is Order for order in told))

    def test_two_and_seven(self):
        self.assertEqual([str(order) for order in each_order(2)], ["a b / b a"])
        seven = list(each_order(7))
        self.assertEqual((len(seven), str(seven[0]), str(seven[-1])),
                         (3447, "a b c d e f g / g a b c d e f", "a b c d e f g / g f e d c b a"))

    def test_it_is_a_generator(self):
        told = each_order(3)
        self.assertIsInstance(told, types.GeneratorType)
        other = each_order(3)
        self.assertEqual(str(next(told)), "a b c / c a b")
        self.assertEqual(str(next(told)), "a b c / b c a")
        self.assertEqual(str(next(other)), "a b c / c a b")
        self.assertEqual(str(next(told)), "a b c / c b a")
        self.assertRaises(StopIteration, next, told)

    def test_many_is_refused_when_the_first_result_is_asked_for(self):
        for many in [0, 1, 8, -1, 40, SIXTY, SIXTY_ONE, HUNDRED] + all_but(INTEGERS):
            told = each_order(many)
            self.refuses_count(many, next, told)


class CountOrdersTest(CallTest):

    def test_small_counts(self):
        self.assertEqual([count_orders(many) for many in range(1, 11)],
                         [1, 1, 3, 13, 71, 461, 3447, 29093, 273343, 2829325])
        for many in range(2, 8):
            whole = sum(1 for places in all_places(many) if is_whole_by_definition(places))
            self.assertEqual(count_orders(many), whole)

    def test_all_tuples_of_places_are_rows_of_blocks(self):
        for many in range(1, 41):
            first_blocks = [count_orders(k) * math.factorial(many - k) for k in range(1, many + 1)]
            self.assertEqual(sum(first_blocks), math.factorial(many))

    def test_many_is_refused(self):
        for many in [0, 41, -1, 42, SIXTY, -SIXTY, SIXTY_ONE, HUNDRED] + all_but(INTEGERS):
            self.refuses_count(many, count_orders, many)

    def test_kept_value_is_the_passed_one(self):
        for value in LISTS:
            self.assertIs(self.refuses(InvalidCount, count_orders, value).value, value)
        self.refuses(UnknownName, Order(("a",), ("a",)).form, "b", [])


if __name__ == "__main__":
    unittest.main()
