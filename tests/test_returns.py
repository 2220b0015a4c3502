"""Stage 9: returns and first visits."""

import unittest

from pieceround.base.numbers import Number
from pieceround.base.orders import Order
from pieceround.errors import InvalidExchange, InvalidPoint, InvalidReading
from pieceround.piece.exchanges import Exchange, cut_at
from pieceround.rounds.parts import part_at, parts_of, reading_of
from pieceround.rounds.rounds import columns, course_of, rounded
from pieceround.way import returns
from pieceround.way.far import period_at, point_far
from pieceround.way.returns import first_visit, returns_to
from tests.models import (
    FOUR, GOLD, MIX, NAMED, ONES, OTHERS, half_of, is_in, names_with, points_of, random_exchanges, reversed_exchange,
    total_of, way, wrong_points,
)
from tests.samples import ALL_KINDS, EXCHANGES, NUMBERS, READINGS, CallTest
from tests.test_far import with_readings

START, ONE = Number(0), Number(1)
GOLD_READING = reading_of(GOLD)
READ = with_readings(NAMED + OTHERS + random_exchanges(16, 9))


def windows_of(exchange):
    """The whole segment, windows that begin at a cut, that end at the total, that lie inside one piece, and others."""
    found = [(START, exchange.total), (START, half_of(exchange.total)), (half_of(exchange.total), exchange.total)]
    for name in exchange:
        begin, length = exchange.begins[name], exchange.lengths[name]
        found.append((begin, begin + length))
        found.append((begin + length * Number(1, bottom=3), begin + half_of(length)))
        found.append((begin, exchange.total))
    cuts = exchange.upper_cuts
    found += [(half_of(low), half_of(low + high)) for low, high in zip(cuts, cuts[1:])]
    return found


def return_of(exchange, begin, end, point):
    """The return of a point, its time and its path."""
    path = []
    while not path or not is_in(point, begin, end):
        path.append(exchange.piece_at(point))
        point = exchange(point)
    return point, len(path), tuple(path)


class ReturnsTest(CallTest):

    def test_constants(self):
        self.assertEqual(returns.MAX_RETURN, 10000)

    def test_returns(self):
        for one, _ in READ:
            for begin, end in windows_of(one):
                told, times = returns_to(one, begin, end, most=10000)
                self.assertEqual((told.total, told.order.above), (end - begin, names_with(len(told))))
                self.assertEqual(list(times), list(told.order.names))
                self.assertLessEqual(len(told), len(one) + 2)
                found = []
                for name in told:
                    first = told.begins[name]
                    last = first + told.lengths[name] - told.lengths[name] * Number(1, bottom=10 ** 6)
                    paths = set()
                    for point in (first, first + half_of(told.lengths[name]), last):
                        image, time, path = return_of(one, begin, end, begin + point)
                        self.assertEqual((image, time), (begin + told(point), times[name]))
                        paths.add(path)
                    self.assertEqual(len(paths), 1)
                    found += paths
                # Points with equal paths are one piece.
                self.assertEqual(len(set(found)), len(found))

    def test_lengths_of_the_ways(self):
        for one, reading in READ:
            parts = parts_of(one, reading)
            for begin, end in windows_of(one):
                told, times = returns_to(one, begin, end, most=10000)
                length = total_of(told.lengths[name] * times[name] for name in told)
                self.assertLessEqual(length.compared(one.total), 0)
                if len(parts) == 1 and parts[0].is_loop:
                    self.assertEqual(length, one.total)

    def test_whole_segment(self):
        for one, _ in READ:
            told, times = returns_to(one, START, one.total)
            self.assertEqual((told.order.places, set(times.values())), (one.order.places, {1}))
            self.assertEqual([told.lengths[name] for name in told], [one.lengths[name] for name in one])

    def test_windows_of_rounds(self):
        for one, _ in READ:
            if one.order.is_whole:
                behind = rounded(one)
                told, times = returns_to(one, START, behind.total)
                column = columns(one.order, course_of(one, 1))
                self.assertEqual(told.order.places, behind.order.places)
                self.assertEqual([told.lengths[name] for name in told], [behind.lengths[name] for name in behind])
                self.assertEqual([times[name] for name in told], [sum(column[name].values()) for name in behind])

    def test_pieces_of_the_paths(self):
        # The shifts of both pieces are equal, but not their paths.
        told, times = returns_to(Exchange.read("a b", "b a", "1", "1"), START, ONE)
        self.assertEqual((str(told), times), ("a / a: 1", {"a": 2}))
        told, times = returns_to(cut_at(Exchange.read("a b", "b a", "1", "1"), (half_of(ONE),)), START, ONE)
        self.assertEqual((str(told), times), ("a b / a b: 1/2, 1/2", {"a": 2, "b": 2}))

    def test_windows_within_windows(self):
        for one, _ in READ:
            begin, end = one.total * Number(1, bottom=5), one.total * Number(4, bottom=5)
            low, high = one.total * Number(2, bottom=5), one.total * Number(3, bottom=5)
            outer, outer_times = returns_to(one, begin, end, most=10000)
            inner, times = returns_to(one, low, high, most=10000)
            again, _ = returns_to(outer, low - begin, high - begin, most=10000)
            for point in points_of(again) + points_of(inner):
                if is_in(point, START, inner.total) and point.root in (0, inner.root):
                    self.assertEqual(again(point), inner(point))
            for name in inner:
                point = low - begin + inner.begins[name]
                _, _, path = return_of(outer, low - begin, high - begin, point)
                self.assertEqual(sum(outer_times[other] for other in path), times[name])

    def test_inverse(self):
        for one, _ in READ:
            for begin, end in windows_of(one)[:6]:
                told, times = returns_to(one, begin, end, most=10000)
                back, back_times = returns_to(one.inverse(), begin, end, most=10000)
                self.assertEqual(len(back), len(told))
                for name in told:
                    image = told.begins_below[name]
                    other = back.piece_at(image)
                    self.assertEqual((back.begins[other], back(image)), (image, told.begins[name]))
                    self.assertEqual((back.lengths[other], back_times[other]), (told.lengths[name], times[name]))

    def test_most_steps(self):
        for one, _ in READ:
            for begin, end in windows_of(one):
                told, times = returns_to(one, begin, end, most=10000)
                longest = max(times.values())
                self.assertEqual(returns_to(one, begin, end, most=longest), (told, times))
                if longest > 1:
                    self.refuses_many(longest - 1, returns_to, one, begin, end, most=longest - 1)

    def test_greatest_bounds(self):
        one = Exchange.read("a b", "b a", "9999", "1")
        self.assertEqual(returns_to(one, START, ONE, most=10000)[1], {"a": 10000})
        self.refuses_many(9999, returns_to, one, START, ONE, most=9999)
        self.refuses_many(1000, returns_to, one, START, ONE)
        one = Exchange.read("a b", "b a", "10000", "1")
        self.refuses_many(10000, returns_to, one, START, ONE, most=10000)
        one = Exchange.read("a b", "b a", "999", "1")
        self.assertEqual(returns_to(one, START, ONE)[1], {"a": 1000})

    def test_forty_pieces_and_forty_one(self):
        # Two more pieces than names, with a window whose ends lie inside pieces and on no way from a cut.
        for many, pieces in ((37, 39), (38, 40), (39, 41), (40, 42)):
            one = reversed_exchange([Number(1000 + 7 * index * index + index) for index in range(many)])
            begin, end = Number(1, bottom=3) + 500, one.total - Number(700) - Number(1, bottom=7)
            if pieces <= 40:
                told, times = returns_to(one, begin, end)
                self.assertEqual((len(told), list(times)), (pieces, sorted(names_with(pieces))))
                for name in list(told)[::5]:
                    image, time, _ = return_of(one, begin, end, begin + told.begins[name])
                    self.assertEqual((image - begin, time), (told(told.begins[name]), times[name]))
            else:
                self.refuses_many(40, returns_to, one, begin, end)
                # The steps are told ahead of the pieces.
                self.refuses_many(1, returns_to, one, begin, end, most=1)

    def test_ends_with_a_root(self):
        root = Number(0, 1, root=2)
        told, times = returns_to(ONES, root - 1, root)
        self.assertEqual((str(told), times), ("a b / a b: 2-1r2, -1+1r2", {"a": 2, "b": 1}))
        self.assertEqual(returns_to(ONES, START, root)[0].total, root)


class FirstVisitTest(CallTest):

    def test_small_visits(self):
        for one, reading in READ:
            parts = parts_of(one, reading)
            for begin, end in windows_of(one):
                for point in points_of(one)[::3]:
                    if len({number.root for number in (point, begin, end)} - {0, one.root}) > 1:
                        continue
                    found = first_visit(one, reading, point, begin, end)
                    inside = [is_in(other, begin, end) for other in way(one, point, 40)[0]]
                    if True in inside:
                        self.assertEqual(found, inside.index(True))
                    else:
                        self.assertTrue(found is None or found > 40)
                        if found is not None:
                            self.assertTrue(is_in(point_far(one, reading, point, found), begin, end))
                            self.assertEqual(first_visit(one, reading, one(point), begin, end), found - 1)
                        part = parts[part_at(one, reading, point)[0]]
                        if found is None and not part.is_loop:
                            points, _ = way(one, point, part.period)
                            self.assertFalse(any(is_in(other, begin, end) for other in points))
                    period = period_at(one, reading, point)
                    if period is not None and found is not None:
                        self.assertLess(found, period)

    def test_parts(self):
        # A loop part comes into each window that has points of it, and into no other one.
        for one, reading in READ:
            parts = parts_of(one, reading)
            for begin, end in windows_of(one):
                times = [part_at(one, reading, begin + (end - begin) * Number(at, bottom=23))[0] for at in range(23)]
                for point in points_of(one)[:5]:
                    index = part_at(one, reading, point)[0]
                    if parts[index].is_loop and index in times:
                        self.assertIsNotNone(first_visit(one, reading, point, begin, end))
        one = Exchange.read("a b c", "b a c", "1r2", "1", "1r2")
        reading, end = reading_of(one), one.begins["c"]
        self.assertEqual([part.is_loop for part in parts_of(one, reading)], [True, False])
        self.assertIsNone(first_visit(one, reading, START, end, one.total))
        self.assertIsNone(first_visit(one, reading, end, START, end))
        self.assertEqual(first_visit(one, reading, end, START, one.total), 0)

    def test_return_times(self):
        for one, reading in READ:
            for begin, end in windows_of(one)[:8]:
                told, times = returns_to(one, begin, end, most=10000)
                for name in told:
                    point = begin + told.begins[name]
                    self.assertEqual(first_visit(one, reading, point, begin, end), 0)
                    self.assertEqual(first_visit(one, reading, one(point), begin, end), times[name] - 1)

    def test_far_visits(self):
        for one in (GOLD, MIX, FOUR):
            reading, back = reading_of(one), one.inverse()
            for figures in (5, 10, 20, 28):
                begin = one.total * Number(3, bottom=7)
                end = begin + Number(1, bottom=10 ** figures)
                many = first_visit(one, reading, half_of(one.total), begin, end)
                self.assertGreater(many, 10 ** (figures - 4))
                found = point_far(one, reading, half_of(one.total), many)
                self.assertTrue(is_in(found, begin, end))
                # From there, the way back comes into the window no sooner than at the point, or behind it.
                before = first_visit(back, reading_of(back), back(found), begin, end)
                self.assertGreaterEqual(before, many)
                self.assertEqual(first_visit(one, reading, one(half_of(one.total)), begin, end), many - 1)

    def test_any_number_of_digits(self):
        begin = GOLD.total * Number(3, bottom=7)
        many = first_visit(GOLD, GOLD_READING, ONE, begin, begin + Number(1, bottom=10 ** 500))
        self.assertGreater(many, 10 ** 490)
        self.assertEqual(first_visit(GOLD, GOLD_READING, GOLD(ONE), begin, begin + Number(1, bottom=10 ** 500)), many - 1)

    def test_exact_windows(self):
        # A window that begins at a point of the way, and one that ends at it.
        for one, reading in READ:
            for point in points_of(one)[:4]:
                points, _ = way(one, point, 25)
                for many in (3, 10, 25):
                    place = points[many]
                    small = Number(1, bottom=10 ** 12)
                    if (place + small).compared(one.total) <= 0:
                        first = [index for index, other in enumerate(points) if is_in(other, place, place + small)]
                        self.assertEqual(first_visit(one, reading, point, place, place + small), first[0])
                    if (place - small).sign >= 0:
                        found = first_visit(one, reading, point, place - small, place)
                        self.assertTrue(found is None or found > 25 or is_in(points[found], place - small, place))


class WrongTest(CallTest):

    def test_exchange(self):
        for begin in (START, None):
            self.refuses_all(InvalidExchange, returns_to, but=EXCHANGES, behind=(begin, ONE))
            self.refuses_all(InvalidExchange, first_visit, but=EXCHANGES, behind=(GOLD_READING, START, begin, ONE))
        self.refuses_all(InvalidExchange, first_visit, but=EXCHANGES, behind=(None, None, None, None))
        for value in ALL_KINDS:
            if value.__class__ is not Exchange:
                self.refuses(InvalidExchange, returns_to, value, START, ONE, most=0)

    def test_reading(self):
        for behind in ((START, START, ONE), (None, None, None)):
            self.refuses_all(InvalidReading, first_visit, GOLD, but=READINGS, behind=behind)
            self.refuses(InvalidReading, first_visit, GOLD, READINGS[1], *behind)

    def test_points(self):
        right = [number for number in NUMBERS]
        self.refuses_all(InvalidPoint, returns_to, GOLD, but=right, behind=(GOLD.total,))
        self.refuses_all(InvalidPoint, returns_to, GOLD, START, but=right)
        self.refuses_all(InvalidPoint, first_visit, GOLD, GOLD_READING, but=right, behind=(START, ONE))
        self.refuses_all(InvalidPoint, first_visit, GOLD, GOLD_READING, START, but=right, behind=(GOLD.total,))
        self.refuses_all(InvalidPoint, first_visit, GOLD, GOLD_READING, START, START, but=right)
        for one, reading in READ:
            for point in wrong_points(one):
                self.refuses(InvalidPoint, returns_to, one, point, one.total)
                self.refuses(InvalidPoint, first_visit, one, reading, point, START, one.total)
                self.refuses(InvalidPoint, first_visit, one, reading, START, point, one.total)

    def test_ends(self):
        small = Number(1, bottom=10 ** 9)
        for one, reading in READ:
            middle = half_of(one.total)
            for begin, end in ((START, START), (middle, middle), (middle, START), (middle, middle - small), (START, -small),
                               (START, one.total + small), (middle, one.total * 2)):
                self.refuses(InvalidPoint, returns_to, one, begin, end)
                self.refuses(InvalidPoint, first_visit, one, reading, START, begin, end)
            self.assertEqual(returns_to(one, START, one.total)[0].total, one.total)

    def test_roots(self):
        two, three = Number(0, 1, root=2), Number(0, 1, root=3)
        self.refuses(InvalidPoint, returns_to, ONES, two, three)
        self.refuses(InvalidPoint, returns_to, GOLD, START, two)
        reading = reading_of(ONES)
        self.refuses(InvalidPoint, first_visit, ONES, reading, two, three, Number(3))
        self.refuses(InvalidPoint, first_visit, ONES, reading, two, START, three)
        self.refuses(InvalidPoint, first_visit, ONES, reading, START, two, three)
        self.refuses(InvalidPoint, first_visit, GOLD, GOLD_READING, START, START, two)
        self.assertEqual(first_visit(ONES, reading, two, START, two), None)
        self.assertEqual(first_visit(ONES, reading, half_of(two), two + 1, Number(3)), 1)

    def test_most(self):
        for value in [*ALL_KINDS, 0, 10001, -1]:
            if not isinstance(value, int) or isinstance(value, bool) or not 1 <= value <= 10000:
                self.refuses_count(value, returns_to, GOLD, START, ONE, most=value)
                self.refuses(InvalidPoint, returns_to, GOLD, START, START, most=value)
                self.refuses(InvalidPoint, returns_to, GOLD, None, ONE, most=value)
        self.assertEqual(returns_to(GOLD, START, ONE, most=3)[0].order, Order.read("a b", "b a"))
        self.assertEqual(len(returns_to(MIX, START, ONE, most=10000)), 2)


if __name__ == "__main__":
    unittest.main()
