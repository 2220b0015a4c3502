"""Stage 13: cones, and what [0.19] says of courses and of traces that come for some lengths."""

import itertools
import random
import unittest

from pieceround.base.numbers import Number
from pieceround.base.orders import Order, each_order
from pieceround.errors import InvalidCourse, InvalidOrder, InvalidTrace
from pieceround.piece.exchanges import Exchange
from pieceround.rounds.rounds import columns, course_of, lengths_ahead, order_behind, rounded_by
from pieceround.trace.traces import stretch_of, trace
from pieceround.walk import cones
from pieceround.walk.cones import (
    bar_of, has_course, is_bar, lengths_with, trace_for_some, traces_together,
)
from tests.models import NAMED, OTHERS, names_with, total_of
from tests.samples import ALL_KINDS, ORDERS, SIXTY, SIXTY_ONE, CallTest

TURN = Order.read("a b", "b a")
PARTED = (("a", "a"), ("b", "b"))
SMALL = [order for many in (2, 3) for order in each_order(many)]
OTHER_ORDERS = [Order.read(*rows) for rows in (
    ("a", "a"), ("a b", "a b"), ("b a c", "c b a"), ("a b c d", "b a d c"), ("d a c b", "b c a d"),
    ("x y z", "y x z"), ("a b c d e f", "f e d c b a"), ("f b d e a c", "c a f d e b"),
)]
SOURCE = random.Random(13)


def edge(order, letters, i, j):
    """The factors of an edge of a trace, as [13.1] has them."""
    def begin(name, row):
        return {other: int(row.index(other) < row.index(name)) for other in order}
    factors = {name: 0 for name in order}
    for at, letter, sign in ((j, letters[j], 1), (i, letters[i], -1)):
        for name in order:
            factors[name] += sign * begin(letter, order.above)[name]
            for ahead in letters[:at]:
                shift = begin(ahead, order.below)[name] - begin(ahead, order.above)[name]
                factors[name] -= sign * shift
    factors[letters[j]] += 1
    return factors


def is_bar_by_definition(order, traces, value):
    """Whether a tuple of rows with right indices is a bar, by the sum of its edges."""
    rows = [row[:3] for row in value]
    if not value or rows != sorted(set(rows)) or min(row[3] for row in value) < 1:
        return False
    told = [(weight, edge(order, traces[index], i, j)) for index, i, j, weight in value]
    return all(sum(weight * factors[name] for weight, factors in told) <= 0 for name in order)


def random_traces(order, letters, source):
    """Traces with so many letters together, some of which are those of points for some lengths."""
    found, left = [], letters
    while left > 0:
        many = source.randint(1, left)
        left -= many
        if source.random() < 0.6:
            one = Exchange(order, {name: Number(source.randint(1, 12)) for name in order})
            found.append(trace(one, one.total * Number(source.randint(0, 99), bottom=100), many))
        else:
            found.append(tuple(source.choice(order.above) for _ in range(many)))
    return tuple(found)


class CourseTest(CallTest):

    def test_constants(self):
        self.assertEqual((cones.MAX_CONE, cones.MAX_LETTERS), (6, 14))

    def check_lengths(self, order, course):
        lengths = lengths_with(order, course)
        self.assertEqual((list(lengths), {length.root for length in lengths.values()}), (sorted(order), {0}))
        one = Exchange(order, lengths)
        self.assertEqual(rounded_by(one, course).order, order_behind(order, course))
        self.assertEqual(course_of(one, len(course)), course)

    def test_all_short_courses(self):
        for order in SMALL + OTHER_ORDERS:
            for many in range(4):
                for course in itertools.product(("lower", "upper", "even"), repeat=many):
                    try:
                        order_behind(order, course)
                        fits = True
                    except InvalidCourse:
                        fits = False
                    self.assertIs(has_course(order, course), fits)
                    if fits:
                        self.check_lengths(order, course)
                    else:
                        self.refuses(InvalidCourse, lengths_with, order, course)

    def test_even_rounds(self):
        # An even round can be the last one, or stand ahead of others where the order stays whole.
        order = Order.read("a b c", "c b a")
        for course in (("even",), ("upper", "lower", "even"), ("lower", "even"), ("lower", "even", "upper"),
                       ("lower", "even", "upper", "lower", "even")):
            self.assertIs(has_course(order, course), True)
            self.check_lengths(order, course)
        for course in (("even", "upper"), ("even", "even"), ("lower", "even", "even", "upper")):
            self.assertIs(has_course(order, course), False)
            self.refuses(InvalidCourse, lengths_with, order, course)
        self.assertEqual((has_course(TURN, ("even",)), has_course(TURN, ("even", "upper"))), (True, False))

    def test_rounds_of_all_kinds(self):
        # All lengths come from those behind the course, as often as the columns tell; the kinds stand in each order.
        told = [Order.read(*rows) for rows in (
            ("a b c d", "d c b a"), ("a b c d", "d c a b"), ("c e a d b", "b d a e c"), ("a b c d e f", "f e d c b a"),
        )]
        checked = set()
        for order in told:
            for course in itertools.product(("lower", "upper", "even"), repeat=5):
                if len(set(course)) < 3 or not has_course(order, course):
                    continue
                self.check_lengths(order, course)
                lengths = lengths_with(order, course)
                left = rounded_by(Exchange(order, lengths), course).lengths
                self.assertEqual(lengths_ahead(order, course, left), lengths)
                checked.add(tuple(dict.fromkeys(course)))
        self.assertEqual(checked, set(itertools.permutations(("lower", "upper", "even"))))

    def test_courses_of_exchanges(self):
        for one in NAMED + OTHERS:
            course = course_of(one, 40)
            self.assertIs(has_course(one.order, course), True)
            self.check_lengths(one.order, course)

    def test_lengths_are_sums_of_columns(self):
        # The lengths that have a course without even rounds are the sums of its columns with factors above 0.
        for order in SMALL:
            for many in range(5):
                for course in itertools.product(("lower", "upper"), repeat=many):
                    found = columns(order, course)
                    factors = {name: Number(1 + index, bottom=3) for index, name in enumerate(found)}
                    lengths = {name: total_of(factors[other] * found[other][name] for other in found) for name in order}
                    one = Exchange(order, lengths)
                    self.assertEqual(rounded_by(one, course).lengths, factors)
                    other = Exchange(order, lengths_with(order, course))
                    behind = rounded_by(other, course).lengths
                    told = {name: total_of(behind[other] * found[other][name] for other in found) for name in order}
                    self.assertEqual(told, other.lengths)

    def test_longest_courses(self):
        names = names_with(40)
        for order in (TURN, Order(names, names[::-1])):
            course = ("upper", "lower", "lower") * 1333 + ("upper",)
            self.assertIs(has_course(order, course), True)
            lengths = lengths_with(order, course)
            ones = {name: Number(1) for name in order}
            self.assertEqual(rounded_by(Exchange(order, lengths), course).order, order_behind(order, course))
            self.assertEqual(lengths, lengths_ahead(order, course, ones))

    def test_wrong_arguments(self):
        for call in (has_course, lengths_with):
            for course in ((), ("upper",), None):
                self.refuses_all(InvalidOrder, call, but=ORDERS, behind=(course,))
            for order in (TURN, Order.read("a", "a")):
                empty = [value for value in ALL_KINDS if isinstance(value, tuple) and value == ()]
                self.refuses_all(InvalidCourse, call, order, but=empty)
                for course in (["upper"], ("upper", 1), ("Upper",), ("upper",) * 4001, "upper"):
                    self.refuses(InvalidCourse, call, order, course)
        self.assertIs(has_course(Order.read("a", "a"), ("upper",)), False)
        self.refuses(InvalidCourse, lengths_with, Order.read("a", "a"), ("upper",))


class TraceTest(CallTest):

    def check_traces(self, order, traces):
        """Either there are right lengths, or there is a right bar."""
        lengths, bar = traces_together(order, traces), bar_of(order, traces)
        self.assertEqual(lengths is None, bar is not None)
        if lengths is not None:
            self.assertEqual((list(lengths), {length.root for length in lengths.values()}), (sorted(order), {0}))
            one = Exchange(order, lengths)
            self.assertTrue(all(stretch_of(one, letters) is not None for letters in traces))
        else:
            self.assertIs(is_bar(order, traces, bar), True)
            self.assertTrue(is_bar_by_definition(order, traces, bar))
            self.assertTrue(all(isinstance(row, tuple) and len(row) == 4 and row[3] <= SIXTY for row in bar))
        if len(traces) == 1:
            self.assertEqual(trace_for_some(order, traces[0]), lengths)
        return lengths

    def test_all_short_traces(self):
        for order in SMALL + OTHER_ORDERS[:6]:
            for many in (1, 2, 3, 4):
                for letters in itertools.product(order, repeat=many):
                    self.check_traces(order, (letters,))

    def test_lengths_are_found_if_there_are_any(self):
        # What some small lengths have, comes.
        for order in SMALL:
            for values in itertools.product((1, 2, 3), repeat=len(order)):
                one = Exchange(order, {name: Number(value) for name, value in zip(order, values)})
                for place in range(sum(values) * 2):
                    letters = trace(one, Number(place, bottom=2), 7)
                    self.assertIsNotNone(trace_for_some(order, letters))

    def test_random_traces(self):
        found = []
        for order in SMALL + OTHER_ORDERS:
            for letters in (2, 5, 9, 14, 14):
                for _ in range(6):
                    found.append(self.check_traces(order, random_traces(order, letters, SOURCE)) is None)
        self.assertGreater(found.count(True), 100)
        self.assertGreater(found.count(False), 100)

    def test_what_comes_for_some_lengths_does_not_for_all(self):
        self.assertIsNotNone(trace_for_some(TURN, ("a", "b", "b")))
        one = Exchange.read("a b", "b a", "2", "1")
        self.assertIsNone(stretch_of(one, ("a", "b", "b")))

    def test_traces_that_exclude_one_another(self):
        for letters in PARTED:
            self.assertIsNotNone(trace_for_some(TURN, letters))
        self.assertIsNone(traces_together(TURN, PARTED))
        self.assertIsNone(traces_together(TURN, PARTED + (("a",),)))
        self.assertIsNotNone(traces_together(TURN, (("a", "a"), ("a", "b"), ("a", "a"))))

    def test_letters_and_names_at_the_bounds(self):
        order = OTHER_ORDERS[6]
        fourteen = tuple(order.above[index * 5 % 6] for index in range(14))
        self.check_traces(order, (fourteen,))
        self.check_traces(order, tuple((name,) for name in fourteen))
        one = Exchange(order, {name: Number(2 + index) for index, name in enumerate(order)})
        self.assertIsNotNone(trace_for_some(order, trace(one, Number(3), 14)))
        self.refuses(InvalidTrace, trace_for_some, order, fourteen + ("a",))
        self.refuses(InvalidTrace, traces_together, order, (fourteen, ("a",)))
        self.refuses(InvalidTrace, traces_together, order, (("a",) * 8, ("b",) * 7))
        self.refuses(InvalidTrace, bar_of, order, (("a",),) * 15)
        seven = Order(names_with(7), names_with(7)[::-1])
        for letters in (("a",), ("a", "g"), ("g",) * 14):
            self.refuses_many(6, trace_for_some, seven, letters)
            self.refuses_many(6, traces_together, seven, (letters,))
            self.refuses_many(6, bar_of, seven, (letters,))
            self.refuses_many(6, is_bar, seven, (letters,), None)

    def test_one_name_and_orders_that_are_not_whole(self):
        self.assertEqual(list(trace_for_some(Order.read("z", "z"), ("z",) * 14)), ["z"])
        self.assertIsNone(trace_for_some(Order.read("a b", "a b"), ("a", "b")))
        self.assertIsNotNone(traces_together(Order.read("a b", "a b"), (("a",) * 7, ("b",) * 7)))

    def test_wrong_arguments(self):
        for letters in (("a",), (), None, ("c",)):
            self.refuses_all(InvalidOrder, trace_for_some, but=ORDERS, behind=(letters,))
        for traces in ((("a",),), (), None, (("c",),)):
            self.refuses_all(InvalidOrder, traces_together, but=ORDERS, behind=(traces,))
            self.refuses_all(InvalidOrder, bar_of, but=ORDERS, behind=(traces,))
            self.refuses_all(InvalidOrder, is_bar, but=ORDERS, behind=(traces, None))
        right = [value for value in ALL_KINDS if isinstance(value, tuple) and len(value) > 0
                 and all(name in ("a", "b") for name in value if isinstance(name, str))
                 and all(isinstance(name, str) for name in value)]
        seven = Order(names_with(7), names_with(7)[::-1])
        for order in (TURN, seven):
            self.refuses_all(InvalidTrace, trace_for_some, order, but=right + [("abcdefgh",) * 41])
            self.refuses(InvalidTrace, trace_for_some, order, ())
            fine = [value for value in ALL_KINDS if value == (("a", "b"),)]
            for call, behind in ((traces_together, ()), (bar_of, ()), (is_bar, (None,))):
                self.refuses_all(InvalidTrace, call, order, but=fine, behind=behind)
                for traces in ((), ((),), (("a",), ()), (("a", "z"),), [("a",)], (["a"],), ("a",), (("a", 1),),
                               (("a",), None), (("a", ("a",)),), (("a",) * 15,)):
                    self.refuses(InvalidTrace, call, order, traces, *behind)


class BarTest(CallTest):

    def test_all_small_values(self):
        for traces in (PARTED, (("a", "a", "b"),), (("a", "b"), ("b", "a"))):
            edges = [(index, i, j) for index, letters in enumerate(traces)
                     for i in range(len(letters)) for j in range(len(letters))]
            for size in (1, 2, 3):
                for rows in itertools.combinations(edges, size):
                    for weights in itertools.product((1, 2), repeat=size):
                        value = tuple((*row, weight) for row, weight in zip(rows, weights))
                        self.assertIs(is_bar(TURN, traces, value), is_bar_by_definition(TURN, traces, value))

    def test_bars_of_random_traces(self):
        found = 0
        for order in SMALL + OTHER_ORDERS:
            for _ in range(12):
                traces = random_traces(order, 8, SOURCE)
                bar = bar_of(order, traces)
                if bar is not None:
                    found += 1
                    more = tuple((*row[:3], row[3] * 7) for row in bar)
                    self.assertIs(is_bar(order, traces, more), True)
                    for index, row in enumerate(bar):
                        value = bar[:index] + ((*row[:3], row[3] + 1),) + bar[index + 1:]
                        self.assertIs(is_bar(order, traces, value), is_bar_by_definition(order, traces, value))
                        value = bar[:index] + bar[index + 1:]
                        self.assertIs(is_bar(order, traces, value), is_bar_by_definition(order, traces, value))
                    self.assertIs(is_bar(order, traces, bar[::-1]), len(bar) == 1)
                    self.assertIs(is_bar(order, traces, bar + bar), False)
        self.assertGreater(found, 50)

    def test_weights(self):
        for weight, is_right in ((1, True), (SIXTY, True), (SIXTY_ONE, False), (0, False), (-1, False), (True, False)):
            value = ((0, 0, 1, weight), (1, 1, 0, weight))
            self.assertIs(is_bar(TURN, PARTED, value), is_right)
        self.assertIs(is_bar(TURN, PARTED, ((0, 0, 1, SIXTY), (1, 1, 0, SIXTY - 1))), False)

    def test_rows(self):
        right = ((0, 0, 1, 1), (1, 1, 0, 1))
        self.assertIs(is_bar(TURN, PARTED, right), True)
        wrong = [
            (), right[::-1], right + right, right[:1], list(right), (list(right[0]), right[1]), ((0, 0, 1), (1, 1, 0)),
            ((0, 0, 1, 1, 1), (1, 1, 0, 1, 1)), ((False, 0, 1, 1), (1, 1, 0, 1)), ((0, 0, True, 1), (1, 1, 0, 1)),
            ((0, 0, 1, 1), (True, 1, 0, 1)), ((0, 0, 1, 1), (2, 1, 0, 1)), ((0, 0, 2, 1), (1, 1, 0, 1)),
            ((-2, 0, 1, 1), (1, 1, 0, 1)), ((0, 0, -1, 1), (1, 1, 0, 1)), ((0, 0, 1, 1), (1, -1, 0, 1)),
            ((0, 0, 1, None), (1, 1, 0, 1)), ((0, 0, 1, "1"), (1, 1, 0, 1)), (None, right[1]), ("a", "b"),
            ((0, 0, 1, 1), (0, 0, 1, 1), (1, 1, 0, 2)), ((0, 0, 1, 1), (0, 0, 1, 2), (1, 1, 0, 3)),
            ((0, 0, 10 ** 60, 1),), ((0, 0, 1, Number(1)), (1, 1, 0, 1)), (((0,), 0, 1, 1), (1, 1, 0, 1)),
        ]
        for value in wrong:
            self.assertIs(is_bar(TURN, PARTED, value), False, value)
        for value in ALL_KINDS:
            self.assertIs(is_bar(TURN, PARTED, value), False)
            self.assertIs(is_bar(TURN, (("a",),), value), False)

    def test_edges_of_a_part_of_a_trace(self):
        for order in OTHER_ORDERS[2:5]:
            for _ in range(20):
                letters = tuple(SOURCE.choice(order.above) for _ in range(6))
                inner = letters[2:5]
                for i, j in itertools.product(range(3), repeat=2):
                    self.assertEqual(edge(order, inner, i, j), edge(order, letters, i + 2, j + 2))
                    if i == j:
                        told = {name: int(name == inner[i]) for name in order}
                        self.assertEqual(edge(order, inner, i, j), told)
                bar = bar_of(order, (inner,))
                if bar is not None:
                    moved = tuple((0, i + 2, j + 2, weight) for _, i, j, weight in bar)
                    self.assertIs(is_bar(order, (letters,), moved), True)


if __name__ == "__main__":
    unittest.main()
