"""Stage 10: traces, and what [0.14] and [0.18] say of them."""

import itertools
import unittest

from pieceround.base.numbers import Number
from pieceround.errors import InvalidExchange, InvalidPoint, InvalidTrace
from pieceround.piece.exchanges import Exchange
from pieceround.rounds.parts import reading_of
from pieceround.rounds.rounds import course_of, paths, rounded_by
from pieceround.trace import traces as module
from pieceround.trace.traces import connections, count_traces, stretch_lengths, stretch_of, trace, traces
from pieceround.way.far import point_far
from tests.models import (
    FOUR, GOLD, MIX, NAMED, ONES, OTHERS, SPLIT, half_of, points_of, random_exchanges, reversed_exchange, total_of,
    way, wrong_points,
)
from tests.samples import ALL_KINDS, EXCHANGES, NUMBERS, CallTest

START = Number(0)
ALL = NAMED + OTHERS + random_exchanges(30, 10)
FORTY = reversed_exchange([Number(1 + index * index % 17, bottom=1 + index % 3) for index in range(40)])


def all_traces(exchange, many):
    """The traces from the left to the right: one begins at 0, and one at each point that is led to an upper cut."""
    points = {str(START): START}
    for cut in exchange.upper_cuts:
        for _ in range(many):
            points[str(cut)] = cut
            cut = exchange.back(cut)
    found = []
    for point in points.values():
        names = way(exchange, point, many)[1]
        if not any(names == other for _, other in found):
            found.append((point, names))
    # From the left to the right, one by one the least that is left.
    ordered = []
    while found:
        least = found[0]
        for other in found:
            if other[0].compared(least[0]) < 0:
                least = other
        found.remove(least)
        ordered.append(least)
    return ordered


class TraceTest(CallTest):

    def test_constants(self):
        self.assertEqual((module.MAX_LISTED, module.MAX_STEPS, module.MAX_TRACE), (40, 1000, 4000))

    def test_traces_of_points(self):
        for one in ALL:
            for point in points_of(one):
                names = way(one, point, 25)[1]
                for many in (0, 1, 2, 9, 25):
                    self.assertEqual(trace(one, point, many), names[:many])

    def test_most_letters(self):
        names = trace(GOLD, START, 4000)
        self.assertEqual((len(names), names[:8], names.count("a")), (4000, tuple("aabaabab"), 2473))
        self.assertEqual(names, way(GOLD, START, 4000)[1])
        self.refuses_count(4001, trace, GOLD, START, 4001)

    def test_points_with_a_root_in_lengths_without(self):
        self.assertEqual(trace(ONES, Number(0, 1, root=2), 3), ("b", "b", "b"))

    def test_backwards(self):
        for one in NAMED:
            reading = reading_of(one)
            for point in points_of(one)[:5]:
                for many in (1, 4, 9):
                    behind = point_far(one, reading, one.inverse()(point), many)
                    told = trace(one.inverse(), behind, many)
                    self.assertEqual(trace(one, one.inverse()(point), many), told[::-1])

    def test_paths_of_rounds(self):
        for one in ALL:
            course = course_of(one, 5)
            behind, told = rounded_by(one, course), paths(one.order, course)
            for name in behind:
                self.assertEqual(trace(one, behind.begins[name], len(told[name])), told[name])

    def test_wrong_arguments(self):
        for point in (START, None):
            self.refuses_all(InvalidExchange, trace, but=EXCHANGES, behind=(point, 0))
        self.refuses_all(InvalidExchange, trace, but=EXCHANGES, behind=(None, -1))
        for many in (0, -1, None):
            self.refuses_all(InvalidPoint, trace, GOLD, but=NUMBERS, behind=(many,))
        for one in ALL:
            for point in wrong_points(one):
                self.refuses(InvalidPoint, trace, one, point, 1)
                self.refuses(InvalidPoint, trace, one, point, 4001)
        self.refuses_counts(0, 4000, trace, GOLD, START)


class StretchTest(CallTest):

    def test_stretches(self):
        for one in ALL:
            for many in (0, 1, 2, 4):
                told = all_traces(one, many)
                ends = [point for point, _ in told[1:]] + [one.total]
                for (point, names), end in zip(told, ends):
                    self.assertEqual(stretch_of(one, names), (point, end))

    def test_traces_that_do_not_come(self):
        for one in ALL:
            for many in (1, 2, 3):
                told = dict((names, True) for _, names in all_traces(one, many))
                for names in itertools.product(one, repeat=many):
                    self.assertIs(stretch_of(one, names) is not None, names in told)

    def test_sums_of_shifts(self):
        names = trace(FOUR, START, 60)
        moved, lows, highs = START, [], []
        for name in names:
            lows.append(FOUR.begins[name] - moved)
            highs.append(FOUR.begins[name] + FOUR.lengths[name] - moved)
            moved = moved + FOUR.shifts[name]
        begin, end = stretch_of(FOUR, names)
        self.assertIn(begin, lows)
        self.assertIn(end, highs)
        self.assertTrue(all(low.compared(begin) <= 0 for low in lows))
        self.assertTrue(all(high.compared(end) >= 0 for high in highs))

    def test_long_traces(self):
        names = trace(GOLD, START, 4000)
        begin, end = stretch_of(GOLD, names)
        self.assertEqual(begin, START)
        self.assertEqual(trace(GOLD, half_of(end), 4000), names)
        self.assertNotEqual(trace(GOLD, end, 4000), names)
        self.assertIsNone(stretch_of(GOLD, names[:3999] + ("b" if names[3999] == "a" else "a",)))
        self.assertIsNone(stretch_of(GOLD, ("b",) * 4000))
        self.refuses(InvalidTrace, stretch_of, GOLD, names + ("a",))
        self.refuses(InvalidTrace, stretch_of, GOLD, ("b",) * 4001)
        self.assertEqual(stretch_of(ONES, ("a", "c") * 2000), (START, Number(1)))

    def test_wrong_arguments(self):
        self.refuses_all(InvalidExchange, stretch_of, but=EXCHANGES, behind=((),))
        self.refuses_all(InvalidExchange, stretch_of, but=EXCHANGES, behind=(None,))
        right = [value for value in ALL_KINDS if isinstance(value, tuple) and set(map(str, value)) <= {"a", "b"}
                 and all(isinstance(name, str) for name in value)]
        self.refuses_all(InvalidTrace, stretch_of, GOLD, but=right)
        for names in (["a"], ("a", "c"), ("a", 1), ("a", None), ("a", ("b",)), "ab", ("ab",), ("a", ["b"]), ("A",)):
            self.refuses(InvalidTrace, stretch_of, GOLD, names)


class ListTest(CallTest):

    def test_traces(self):
        for one in ALL:
            for many in (0, 1, 2, 3, 6):
                self.assertEqual(traces(one, many), tuple(names for _, names in all_traces(one, many)))

    def test_cover(self):
        for one in ALL:
            found = [stretch_of(one, names) for names in traces(one, 5)]
            self.assertEqual(total_of(end - begin for begin, end in found), one.total)
            self.assertEqual((found[0][0], found[-1][1]), (START, one.total))
            self.assertTrue(all(left[1] == right[0] for left, right in zip(found, found[1:])))

    def test_forty_letters(self):
        for one in (GOLD, FOUR, MIX, ONES, FORTY):
            told = traces(one, 40)
            self.assertEqual(len(told), count_traces(one, 40))
            self.assertEqual({len(names) for names in told}, {40})
            begins = [stretch_of(one, names)[0] for names in told]
            self.assertTrue(all(low.compared(high) < 0 for low, high in zip(begins, begins[1:])))

    def test_forty_pieces(self):
        self.assertEqual((traces(FORTY, 1), traces(FORTY, 0)), (tuple((name,) for name in FORTY), ((),)))
        self.assertEqual(len(traces(FORTY, 3)), count_traces(FORTY, 3))

    def test_wrong_arguments(self):
        for call in (traces, stretch_lengths):
            self.refuses_all(InvalidExchange, call, but=EXCHANGES, behind=(0,))
            self.refuses_all(InvalidExchange, call, but=EXCHANGES, behind=(-1,))
            self.refuses_counts(0, 40, call, GOLD)
        for call in (count_traces, connections):
            self.refuses_all(InvalidExchange, call, but=EXCHANGES, behind=(0,))
            self.refuses_all(InvalidExchange, call, but=EXCHANGES, behind=(-1,))
            self.refuses_counts(0, 1000, call, GOLD)

    def test_stretch_lengths(self):
        for one in ALL:
            for many in (0, 1, 3, 6):
                found = stretch_lengths(one, many)
                told = {str(end - begin) for begin, end in (stretch_of(one, names) for names in traces(one, many))}
                self.assertEqual((len(found), {str(length) for length in found}), (len(told), told))
                self.assertTrue(all(low.compared(high) < 0 for low, high in zip(found, found[1:])))
        self.assertEqual(stretch_lengths(MIX, 0), (MIX.total,))

    def test_few_lengths(self):
        # One loop without even rounds: at most 3 (n - 1) lengths, and k (n - 1) + 1 traces.
        found = [one for one in ALL + random_exchanges(80, 11)
                 if one.order.is_whole and course_of(one, 300).count("even") == 0]
        self.assertGreater(len(found), 15)
        for one in found:
            for many in (1, 2, 5, 9, 20):
                self.assertLessEqual(len(stretch_lengths(one, many)), 3 * (len(one) - 1))
                self.assertEqual(count_traces(one, many), many * (len(one) - 1) + 1)
                self.assertEqual(len(traces(one, many)), many * (len(one) - 1) + 1)


class ConnectionsTest(CallTest):

    def test_connections(self):
        for one in ALL:
            told = {}
            for name in sorted(one.order.above[1:]):
                point, found = one.begins[name], None
                for many in range(30):
                    if found is None and point in one.lower_cuts:
                        found = many
                    point = one.back(point)
                told[name] = found
            for many in (0, 1, 2, 5, 30):
                found = connections(one, many)
                self.assertEqual(list(found), list(told))
                for name, count in told.items():
                    self.assertEqual(found[name], count if count is not None and count < many else None)

    def test_counts(self):
        for one in ALL:
            for many in (0, 1, 2, 3, 8):
                self.assertEqual(count_traces(one, many), len(all_traces(one, many)))

    def test_bounds_of_steps(self):
        # The cut at 1000 comes from the lower cut at 1 by 999 steps, each of which leads one further.
        one = Exchange.read("a b", "b a", "1000", "1")
        self.assertEqual([connections(one, many) for many in (999, 1000)], [{"b": None}, {"b": 999}])
        self.assertEqual([count_traces(one, many) for many in (998, 999, 1000)], [999, 1000, 1001])
        one = Exchange.read("a b", "b a", "500", "1")
        self.assertEqual([connections(one, many) for many in (499, 500)], [{"b": None}, {"b": 499}])
        self.assertEqual([count_traces(one, many) for many in (499, 500, 501, 1000)], [500, 501, 501, 501])

    def test_one_name(self):
        one = Exchange.read("z", "z", "7/2")
        self.assertEqual((connections(one, 9), count_traces(one, 1000), traces(one, 3)), ({}, 1, (("z", "z", "z"),)))
        self.assertEqual((connections(one, 0), stretch_lengths(one, 40)), ({}, (one.total,)))

    def test_what_is_not_true(self):
        # All traces of two letters can come alike, and those of three not.
        pairs = [(one, other) for one, other in itertools.combinations(ALL + random_exchanges(60, 12), 2)
                 if one.order.names == other.order.names]
        self.assertTrue(any(set(traces(one, 2)) == set(traces(other, 2)) and set(traces(one, 3)) != set(traces(other, 3))
                            for one, other in pairs))
        self.assertEqual(count_traces(SPLIT, 9), 3)
        # No upper cut of it is a lower cut, but one has a connection.
        one = Exchange.read("a b", "b a", "3", "1")
        self.assertFalse([cut for cut in one.upper_cuts if cut in one.lower_cuts])
        self.assertLess(count_traces(one, 9), 10)


if __name__ == "__main__":
    unittest.main()
