"""Stage 5: rounds, and what [0.12] and [0.13] say of them."""

import itertools
import unittest

from pieceround.base.numbers import Number
from pieceround.base.orders import Order, each_order
from pieceround.errors import InvalidCourse, InvalidExchange, InvalidLengths, InvalidOperation, InvalidOrder
from pieceround.piece.exchanges import Exchange
from pieceround.rounds import rounds
from pieceround.rounds.rounds import (
    columns, course_of, lengths_ahead, order_behind, paths, round_kind, rounded, rounded_by,
)
from tests.models import (
    FOUR, GOLD, MIX, NAMED, ONES, OTHERS, SPLIT, half_of, is_in, random_exchanges, reversed_exchange, step, total_of,
    way,
)
from tests.samples import ALL_KINDS, EXCHANGES, ORDERS, CallTest

KINDS = ("upper", "lower", "even")
TURN = Order.read("a b", "b a")
BACK = Order.read("a b c", "c b a")
ALL = NAMED + OTHERS + random_exchanges(40, 5)
WHOLE = [one for one in ALL if one.order.is_whole]
NOT_WHOLE = [one for one in ALL if not one.order.is_whole]
SMALL_ORDERS = [order for many in (2, 3, 4) for order in each_order(many)]


def round_by_definition(exchange):
    """The kind of the round, and the rows and lengths behind it, as [0.12] has them."""
    upper, lower = list(exchange.order.above), list(exchange.order.below)
    lengths, a, b = exchange.lengths, exchange.order.above[-1], exchange.order.below[-1]
    sign = lengths[a].compared(lengths[b])
    if sign > 0:
        lengths[a] = lengths[a] - lengths[b]
        lower = lower[:-1]
        place = lower.index(a) + 1
        return "upper", Exchange(Order(tuple(upper), tuple(lower[:place] + [b] + lower[place:])), lengths)
    if sign < 0:
        lengths[b] = lengths[b] - lengths[a]
        upper = upper[:-1]
        place = upper.index(b) + 1
        return "lower", Exchange(Order(tuple(upper[:place] + [a] + upper[place:]), tuple(lower)), lengths)
    del lengths[a]
    lower = [b if name == a else name for name in lower[:-1]]
    return "even", Exchange(Order(tuple(upper[:-1]), tuple(lower)), lengths)


def fits(order, course):
    """Whether the course fits, found with the lengths that the kinds ask for."""
    for kind in course:
        if not order.is_whole:
            return False
        lengths = {name: Number(2) for name in order}
        if kind != "even":
            lengths[order.above[-1] if kind == "upper" else order.below[-1]] = Number(3)
        told, behind = round_by_definition(Exchange(order, lengths))
        assert told == kind
        order = behind.order
    return True


def all_courses(most):
    return [course for many in range(most + 1) for course in itertools.product(KINDS, repeat=many)]


def path_by_steps(exchange, shorter, point):
    """The names that a point meets until it is in the shorter segment again, and where it is then."""
    found = []
    while not found or not is_in(point, Number(0), shorter):
        name, point = step(exchange, point)
        found.append(name)
    return tuple(found), point


class RoundTest(CallTest):

    def test_constants(self):
        self.assertEqual((rounds.KINDS, rounds.MAX_COURSE, rounds.MAX_PATH), (KINDS, 4000, 100000))

    def test_one_round(self):
        for one in WHOLE:
            kind, behind = round_by_definition(one)
            self.assertEqual((round_kind(one), rounded(one)), (kind, behind))

    def test_points_of_the_shorter_segment(self):
        for one in WHOLE:
            behind = rounded(one)
            loser = one.order.below[-1] if round_kind(one) == "upper" else one.order.above[-1]
            self.assertEqual(behind.total, one.total - one.lengths[loser])
            for name in behind:
                for point in (behind.begins[name], behind.begins[name] + half_of(behind.lengths[name])):
                    self.assertEqual(behind(point), path_by_steps(one, behind.total, point)[1])

    def test_orders_that_are_not_whole(self):
        self.assertTrue(NOT_WHOLE)
        for one in NOT_WHOLE:
            self.refuses(InvalidOperation, round_kind, one)
            self.refuses(InvalidOperation, rounded, one)

    def test_wrong_arguments(self):
        for call in (round_kind, rounded):
            self.refuses_all(InvalidExchange, call, but=EXCHANGES)


class CourseTest(CallTest):

    def test_courses(self):
        for one in ALL:
            course, told = [], one
            while told.order.is_whole and len(course) < 12:
                kind, told = round_by_definition(told)
                course.append(kind)
                self.assertEqual(rounded_by(one, tuple(course)), told)
            for many in range(len(course) + 1):
                self.assertEqual(course_of(one, many), tuple(course[:many]))
            self.assertEqual(rounded_by(one, ()), one)
            if len(course) < 12:
                self.assertEqual(course_of(one, 4000), tuple(course))
                self.refuses(InvalidCourse, rounded_by, one, tuple(course) + ("upper",))

    def test_other_courses(self):
        for one in WHOLE:
            for kind in KINDS:
                if kind != round_kind(one):
                    self.refuses(InvalidCourse, rounded_by, one, (kind,))
                    self.refuses(InvalidCourse, rounded_by, one, (kind, round_kind(one)))
        self.refuses(InvalidCourse, rounded_by, GOLD, ("lower", "upper", "upper"))
        self.refuses(InvalidCourse, rounded_by, Exchange.read("a", "a", "1"), ("upper",))

    def test_most_rounds(self):
        course = course_of(GOLD, 4000)
        self.assertEqual(course, ("lower", "upper") * 2000)
        self.assertEqual(rounded_by(GOLD, course).order, GOLD.order)
        self.refuses(InvalidCourse, rounded_by, GOLD, course + ("lower",))
        long = Exchange.read("a b", "b a", "4001", "1")
        self.assertEqual(course_of(long, 4000), ("lower",) * 4000)
        self.assertEqual(str(rounded_by(long, ("lower",) * 4000)), "a b / b a: 1, 1")
        self.assertEqual(course_of(Exchange.read("a b", "b a", "4000", "1"), 4000)[-2:], ("lower", "even"))

    def test_wrong_arguments(self):
        self.refuses_counts(0, 4000, course_of, GOLD)
        self.refuses_all(InvalidExchange, course_of, but=EXCHANGES, behind=(0,))
        self.refuses_all(InvalidExchange, course_of, but=EXCHANGES, behind=(-1,))
        self.refuses_all(InvalidExchange, rounded_by, but=EXCHANGES, behind=((),))
        self.refuses_all(InvalidExchange, rounded_by, but=EXCHANGES, behind=(("x",),))
        self.refuses_all(InvalidCourse, rounded_by, GOLD, but=[value for value in ALL_KINDS if value == ()])
        for course in (["lower"], ("lower", "Upper"), ("lower", 1), ("lower", True), ("lower", ("upper",)),
                       ("lower", None), "lower", ("lower", GOLD), ("lower", [])):
            self.refuses(InvalidCourse, rounded_by, GOLD, course)


class OrderBehindTest(CallTest):

    def test_orders_behind(self):
        for order in SMALL_ORDERS:
            for course in all_courses(3):
                if fits(order, course):
                    lengths = {name: Number(1) for name in order_behind(order, course)}
                    ahead = lengths_ahead(order, course, lengths)
                    self.assertEqual(order_behind(order, course), rounded_by(Exchange(order, ahead), course).order)
                else:
                    self.refuses(InvalidCourse, order_behind, order, course)

    def test_rounds_that_are_not_even_keep_orders_whole(self):
        for many in (2, 3, 4, 5):
            orders = list(each_order(many))
            for kind in ("upper", "lower"):
                behind = [order_behind(order, (kind,)) for order in orders]
                self.assertTrue(all(order.is_whole and set(order) == set(orders[0]) for order in behind))
                rows = [[name for name in order] + list(order.below) for order in behind]
                self.assertEqual(len({tuple(row) for row in rows}), len(orders))
        # With the same names, whatever the upper row is.
        orders = [Order(upper, lower) for upper in itertools.permutations("abc")
                  for lower in itertools.permutations("abc") if Order(upper, lower).is_whole]
        for kind in ("upper", "lower"):
            self.assertEqual(len({str(order_behind(order, (kind,))) for order in orders}), len(orders))

    def test_behind_even_rounds(self):
        self.assertEqual(str(order_behind(TURN, ("even",))), "a / a")
        self.assertEqual(str(order_behind(BACK, ("even",))), "a b / a b")
        for course in (("even", "upper"), ("even", "lower"), ("even", "even")):
            self.refuses(InvalidCourse, order_behind, TURN, course)
            self.refuses(InvalidCourse, order_behind, BACK, course)
        self.assertEqual(order_behind(Order.read("a", "a"), ()), Order.read("a", "a"))
        self.refuses(InvalidCourse, order_behind, Order.read("a", "a"), ("even",))
        self.refuses(InvalidCourse, order_behind, Order.read("a b c", "a c b"), ("upper",))

    def test_wrong_arguments(self):
        for call, behind in ((order_behind, ()), (columns, ()), (paths, ()), (lengths_ahead, ({},))):
            self.refuses_all(InvalidOrder, call, but=ORDERS, behind=((), *behind))
            self.refuses_all(InvalidOrder, call, but=ORDERS, behind=(None, *behind))
            wrong = [value for value in ALL_KINDS if value == ()]
            for value in ALL_KINDS:
                if not any(value is other for other in wrong):
                    self.refuses(InvalidCourse, call, TURN, value, *behind)
            for course in (["lower"], ("upper", "Upper"), ("upper", 1), ("upper",) * 4001, ("even", "even"), "upper"):
                self.refuses(InvalidCourse, call, TURN, course, *behind)


class ColumnsTest(CallTest):

    def test_columns_and_paths_of_exchanges(self):
        for one in ALL:
            for many in (0, 1, 2, 5, 9):
                course = course_of(one, many)
                behind = rounded_by(one, course)
                found, told = columns(one.order, course), paths(one.order, course)
                self.assertEqual((list(found), list(told)), ([*behind.order.names], [*behind.order.names]))
                for name in behind:
                    begin = behind.begins[name]
                    path, image = path_by_steps(one, behind.total, begin)
                    self.assertEqual((told[name], image), (path, behind(begin)))
                    self.assertEqual(found[name], {other: path.count(other) for other in one.order.names})
                    self.assertEqual(list(found[name]), list(one.order.names))
                    inside = begin + half_of(behind.lengths[name])
                    self.assertEqual(way(one, inside, len(path))[1], path)
                self.assertEqual(lengths_ahead(one.order, course, behind.lengths), one.lengths)
                periods = [behind.lengths[name] * sum(found[name].values()) for name in behind]
                self.assertEqual(total_of(periods), one.total)

    def test_one_round_changes_one_column(self):
        for order in SMALL_ORDERS:
            for course in all_courses(3):
                if not course or not fits(order, course):
                    continue
                ahead, a_b = columns(order, course[:-1]), order_behind(order, course[:-1])
                a, b = a_b.above[-1], a_b.below[-1]
                changed = a if course[-1] == "lower" else b
                ahead[changed] = {name: ahead[a][name] + ahead[b][name] for name in order}
                if course[-1] == "even":
                    del ahead[a]
                self.assertEqual(columns(order, course), ahead)
                told = paths(order, course[:-1])
                told[changed] = told[b] + told[a]
                if course[-1] == "even":
                    del told[a]
                self.assertEqual(paths(order, course), told)

    def test_no_rounds(self):
        order = Order.read("b a", "a b")
        self.assertEqual(columns(order, ()), {"a": {"a": 1, "b": 0}, "b": {"a": 0, "b": 1}})
        self.assertEqual((list(columns(order, ())), paths(order, ())), (["a", "b"], {"a": ("a",), "b": ("b",)}))
        self.assertEqual(columns(Order.read("a", "a"), ()), {"a": {"a": 1}})

    def test_form_behind(self):
        for order in SMALL_ORDERS:
            for course in itertools.product(("upper", "lower"), repeat=4):
                behind, found = order_behind(order, course), columns(order, course)
                for a, b in itertools.product(order, repeat=2):
                    told = sum(found[a][x] * order.form(x, y) * found[b][y] for x in order for y in order)
                    self.assertEqual(behind.form(a, b), told)

    def test_long_courses(self):
        found = columns(TURN, ("lower", "upper") * 2000)
        self.assertEqual(len(found), 2)
        # Every other number of Fibonacci.
        self.assertEqual(columns(TURN, ("lower", "upper") * 5)["b"], {"a": 55, "b": 34})
        self.assertGreater(sum(found["b"].values()), 10 ** 800)

    def test_longest_paths(self):
        # The course "lower" x times, then "upper" y times has (1 + x) (1 + y) + 1 names in its paths.
        told = paths(TURN, ("lower",) * 368 + ("upper",) * 270)
        self.assertEqual(sum(len(path) for path in told.values()), 100000)
        self.refuses_many(100000, paths, TURN, ("lower",) * 399 + ("upper",) * 249)
        self.refuses_many(100000, paths, TURN, ("lower", "upper") * 2000)
        self.refuses(InvalidCourse, paths, TURN, ("lower", "upper") * 2000 + ("lower",))


class LengthsAheadTest(CallTest):

    def test_every_course_has_lengths(self):
        numbers = [Number(1), Number(0, 1, root=3), Number(2, 1, root=3, bottom=5), Number(7, bottom=3)]
        for order in SMALL_ORDERS:
            for course in itertools.product(("upper", "lower"), repeat=3):
                behind = order_behind(order, course)
                lengths = dict(zip(behind, numbers))
                one = Exchange(order, lengths_ahead(order, course, lengths))
                self.assertEqual(course_of(one, 3), course)
                self.assertEqual(rounded_by(one, course), Exchange(behind, lengths))

    def test_lengths(self):
        told = lengths_ahead(BACK, ("upper", "lower"), {"c": Number(3), "a": Number(1), "b": Number(2)})
        self.assertEqual({name: str(number) for name, number in told.items()}, {"a": "1", "b": "5", "c": "4"})
        self.assertEqual(list(told), ["a", "b", "c"])
        # The name that is left behind an even round is the last one of the lower row.
        told = lengths_ahead(TURN, ("even",), {"a": Number(1, 1, root=2)})
        self.assertEqual({name: str(number) for name, number in told.items()}, {"a": "1+1r2", "b": "1+1r2"})
        self.assertEqual(lengths_ahead(Order.read("a", "a"), (), {"a": Number(2)}), {"a": Number(2)})

    def test_wrong_lengths(self):
        one, two, root = Number(1), Number(2), Number(0, 1, root=2)
        self.refuses_all(InvalidLengths, lengths_ahead, TURN, ("upper",))
        for lengths in (
            {"a": one}, {"a": one, "b": two, "c": one}, {"a": one, "c": two}, {"a": one, "b": Number(0)},
            {"a": one, "b": -two}, {"a": one, "b": 2}, {"a": root, "b": Number(0, 1, root=3)}, [one, two],
        ):
            self.refuses(InvalidLengths, lengths_ahead, TURN, ("upper",), lengths)
        # Behind an even round there is one name less.
        self.refuses(InvalidLengths, lengths_ahead, TURN, ("even",), {"a": one, "b": two})
        for lengths in (None, {}, {"a": 1}):
            self.refuses(InvalidCourse, lengths_ahead, TURN, ("even", "even"), lengths)
            self.refuses(InvalidOrder, lengths_ahead, None, ("even", "even"), lengths)


class NamedTest(CallTest):

    def test_courses_of_the_named_exchanges(self):
        self.assertEqual([round_kind(one) for one in NAMED], ["lower", "lower", "lower", "even", "even"])
        self.assertEqual(str(rounded(SPLIT)), "a b / a b: 1, 1r2")
        self.assertEqual(str(rounded(ONES)), "a b / a b: 1, 1")
        self.assertEqual(str(rounded_by(MIX, ("lower", "even"))), "a c / c a: 1, 1r2")
        self.assertEqual(rounded_by(FOUR, course_of(FOUR, 16)).order, FOUR.order)
        self.assertEqual(str(rounded(reversed_exchange([Number(3)] * 4))), "a b c / a c b: 3, 3, 3")


if __name__ == "__main__":
    unittest.main()
