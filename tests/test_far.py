"""Stage 8: far steps, and what [0.14] and [0.15] say of ways."""

import unittest

from pieceround.base.numbers import Number
from pieceround.errors import InvalidExchange, InvalidPoint, InvalidReading
from pieceround.piece.exchanges import Exchange
from pieceround.rounds.parts import part_at, parts_of, reading_of
from pieceround.way import far
from pieceround.way.far import counts_far, period_at, point_far
from tests.models import (
    FOUR, GOLD, MIX, NAMED, ONES, OTHERS, SPLIT, half_of, points_of, random_exchanges, total_of, way, wrong_points,
)
from tests.samples import ALL_KINDS, EXCHANGES, NUMBERS, READINGS, CallTest

FAR = 10 ** 30
GOLD_READING = reading_of(GOLD)
START = Number(0)


def with_readings(exchanges):
    made = []
    for exchange in exchanges:
        try:
            made.append((exchange, reading_of(exchange, most=100)))
        except OverflowError:
            pass
    return made


READ = with_readings(NAMED + OTHERS + random_exchanges(24, 8))


class StepsTest(CallTest):

    def test_constants(self):
        self.assertEqual(far.MAX_STEPS, FAR)

    def test_what_is_read(self):
        kinds = {tuple(sorted({part.is_loop for part in parts_of(one, reading)})) for one, reading in READ}
        self.assertEqual(kinds, {(False,), (True,), (False, True)})

    def test_single_steps(self):
        for one, reading in READ:
            for point in points_of(one):
                points, names = way(one, point, 30)
                for many in (0, 1, 2, 3, 7, 12, 30):
                    self.assertEqual(point_far(one, reading, point, many), points[many])
                    self.assertEqual(point_far(one, reading, points[many], -many), point)
                    told = {name: names[:many].count(name) for name in one.order.names}
                    self.assertEqual(counts_far(one, reading, point, many), told)
                    self.assertEqual(list(counts_far(one, reading, point, many)), list(one.order.names))

    def test_each_step_of_a_long_way(self):
        for one in (GOLD, MIX, FOUR, SPLIT):
            reading, point = reading_of(one), half_of(one.total)
            points, names = way(one, point, 300)
            for many in range(301):
                self.assertEqual(point_far(one, reading, point, many), points[many])
                self.assertEqual(counts_far(one, reading, point, many)["a"], names[:many].count("a"))

    def test_steps_put_together(self):
        for one, reading in READ:
            for point in points_of(one)[:5]:
                for first, second in ((FAR // 3, FAR - FAR // 3), (1, FAR - 1), (12345, 10 ** 12), (FAR - 1, 1)):
                    behind = point_far(one, reading, point, first)
                    end = point_far(one, reading, point, first + second)
                    self.assertEqual(point_far(one, reading, behind, second), end)
                    self.assertEqual(point_far(one, reading, end, -second), behind)
                    self.assertEqual(point_far(one, reading, end, -first - second), point)
                    counts = counts_far(one, reading, point, first)
                    more, told = counts_far(one, reading, behind, second), counts_far(one, reading, point, first + second)
                    self.assertEqual(told, {name: counts[name] + more[name] for name in counts})
                    self.assertEqual(sum(told.values()), first + second)
                    self.assertEqual(end, point + total_of(one.shifts[name] * told[name] for name in one))

    def test_backwards_is_the_inverse(self):
        for one, reading in READ:
            back = one.inverse()
            for point in points_of(one)[:4]:
                for many in (1, 5, 10 ** 20):
                    told = point_far(back, reading_of(back), point, many)
                    self.assertEqual(point_far(one, reading, point, -many), told)

    def test_exchanges_with_long_readings(self):
        one = Exchange.read("a b", "b a", "3999", "1")
        reading = reading_of(one, most=4000)
        # It leads each point one further, or 3999 back.
        for many in (0, 1, 5, 3998, 3999, 4000, 10 ** 29 + 7):
            self.assertEqual(point_far(one, reading, Number(7, bottom=2), many),
                             Number(2 * ((3 + many) % 4000) + 1, bottom=2))
        self.assertEqual(counts_far(one, reading, START, FAR + 0), {"a": FAR // 4000 * 3999, "b": FAR // 4000})
        one = Exchange.read("t q b m g l", "g l b m q t", "1", "2+2r5", "1r5", "1/2", "1+1r5", "1r5")
        reading, point = reading_of(one, most=4000), Number(1)
        points, _ = way(one, point, 50)
        self.assertEqual([point_far(one, reading, point, many) for many in range(51)], points)
        behind = point_far(one, reading, point, FAR)
        self.assertEqual(point_far(one, reading, behind, -FAR), point)

    def test_long_ways_in_loops(self):
        # The share of the points in a piece is the length of the piece.
        told = counts_far(GOLD, GOLD_READING, START, FAR)
        golden = GOLD.lengths["a"].over(GOLD.total)
        self.assertLess(abs((golden * FAR).floor - told["a"]), 3)
        for one in (FOUR, MIX):
            told = counts_far(one, reading_of(one), START, FAR)
            for name in one:
                share = one.lengths[name].over(one.total) * FAR
                self.assertLess(abs(share.floor - told[name]), 10 ** 15)

    def test_points_with_a_root_in_lengths_without(self):
        root = Number(0, 1, root=2)
        self.assertEqual(point_far(ONES, reading_of(ONES), root, FAR), root)
        self.assertEqual(point_far(ONES, reading_of(ONES), root + 1, FAR - 1), root - 1)
        self.assertEqual(counts_far(ONES, reading_of(ONES), root + 1, 3), {"a": 1, "b": 0, "c": 2})


class PeriodTest(CallTest):

    def test_periods(self):
        for one, reading in READ:
            parts = parts_of(one, reading)
            for point in points_of(one):
                part, period = parts[part_at(one, reading, point)[0]], period_at(one, reading, point)
                if part.is_loop:
                    self.assertIsNone(period)
                    points, _ = way(one, point, 20)
                    self.assertEqual(len({str(other) for other in points}), 21)
                else:
                    self.assertEqual(period, part.period)
                    points, _ = way(one, point, period)
                    self.assertEqual(points.index(point, 1), period)
                    self.assertEqual(counts_far(one, reading, point, period), part.counts)

    def test_floors_have_equal_counts(self):
        for one, reading in READ:
            for part in parts_of(one, reading):
                if part.is_loop:
                    leaf = Exchange(part.order, part.lengths)
                    for name in leaf:
                        period = sum(part.columns[name].values())
                        first = part.begin + leaf.begins[name]
                        second = first + half_of(leaf.lengths[name])
                        for many in {1, period // 2, period}:
                            self.assertEqual(counts_far(one, reading, first, many),
                                             counts_far(one, reading, second, many))
                        self.assertEqual(counts_far(one, reading, first, period), part.columns[name])
                        self.assertEqual(point_far(one, reading, first, period),
                                         part.begin + leaf(leaf.begins[name]))

    def test_one_name(self):
        one = Exchange.read("z", "z", "7/2")
        self.assertEqual((period_at(one, (("cycle",),), Number(3)), point_far(one, (("cycle",),), Number(3), FAR)),
                         (1, Number(3)))


class WrongTest(CallTest):

    def test_exchange(self):
        for reading in (GOLD_READING, None):
            for call, behind in ((point_far, (START, 0)), (counts_far, (None, -1)), (period_at, (None,))):
                self.refuses_all(InvalidExchange, call, but=EXCHANGES, behind=(reading, *behind))

    def test_reading(self):
        for call, behind in ((point_far, (START, 0)), (counts_far, (START, 0)), (period_at, (START,)),
                             (point_far, (None, None)), (counts_far, (None, -1)), (period_at, (None,))):
            self.refuses_all(InvalidReading, call, GOLD, but=READINGS, behind=behind)
            self.refuses(InvalidReading, call, GOLD, READINGS[1], *behind)
            self.refuses(InvalidReading, call, GOLD, list(GOLD_READING), *behind)
            self.refuses(InvalidReading, call, ONES, GOLD_READING, *behind)

    def test_point(self):
        for call, behind in ((point_far, (0,)), (counts_far, (0,)), (period_at, ()), (point_far, (None,)),
                             (counts_far, (-1,))):
            self.refuses_all(InvalidPoint, call, GOLD, GOLD_READING, but=NUMBERS, behind=behind)
            for one, reading in READ[:12]:
                for point in wrong_points(one):
                    self.refuses(InvalidPoint, call, one, reading, point, *behind)

    def test_count(self):
        self.refuses_counts(-FAR, FAR, point_far, GOLD, GOLD_READING, START)
        self.refuses_counts(0, FAR, counts_far, GOLD, GOLD_READING, START)
        for value in (FAR + 1, -FAR - 1, 10 ** 59, -(10 ** 59)):
            self.refuses_count(value, point_far, GOLD, GOLD_READING, START, value)
        for value in (FAR + 1, -1, -FAR):
            self.refuses_count(value, counts_far, GOLD, GOLD_READING, START, value)
        self.assertTrue(ALL_KINDS)

    def test_bounds(self):
        back = point_far(GOLD, GOLD_READING, START, -FAR)
        self.assertEqual(point_far(GOLD, GOLD_READING, back, FAR), START)


if __name__ == "__main__":
    unittest.main()
