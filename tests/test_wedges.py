"""Stage 17: wedges, and what [0.15], [0.17] and [0.22] say of them."""

import unittest

from pieceround.base.numbers import Number
from pieceround.errors import InvalidExchange, InvalidReading
from pieceround.piece.exchanges import Exchange, behind, cut_at, joined
from pieceround.rounds.parts import parts_of, reading_of
from pieceround.rounds.rounds import rounded
from pieceround.same.wedges import comes_round, wedge, wedge_of_part
from tests.models import FOUR, GOLD, MIX, NAMED, ONES, OTHERS, SPLIT, points_of, random_exchanges, total_of
from tests.samples import EXCHANGES, PARTS, CallTest

ALL = NAMED + OTHERS + random_exchanges(80, 17)
# Two blocks, each a loop part, whose wedges are -1 and 1.
CANCELLED = Exchange.read("a b c d", "b a d c", "(1+1r5)/2", "1", "1", "(1+1r5)/2")
# With a root and just cycles: 999 upper rounds and an even one.
LONG = Exchange.read("a b", "b a", "1000r2", "1r2")
NONE = Number(0)


def parts_or_none(exchange):
    try:
        return parts_of(exchange, reading_of(exchange, most=300))
    except OverflowError:
        return None


def both(number):
    """The fractions x and y of a number x + y r."""
    return Number(number.top, bottom=number.bottom), Number(number.part, bottom=number.bottom)


class WedgeTest(CallTest):

    def test_definition(self):
        for one in ALL:
            told = NONE
            for name in one:
                (x, y), (u, v) = both(one.lengths[name]), both(one.shifts[name])
                told = told + x * v - y * u
            self.assertEqual((wedge(one), wedge(one).root), (told, 0))

    def test_form(self):
        for one in ALL:
            told = NONE
            for name in one:
                for other in one:
                    (x, y), (u, v) = both(one.lengths[name]), both(one.lengths[other])
                    told = told + (x * v - y * u) * one.order.form(name, other)
            self.assertEqual(wedge(one), told)

    def test_what_keeps_it(self):
        for one in ALL:
            told = wedge(one)
            self.assertEqual(wedge(cut_at(one, tuple(points_of(one)[:3]))), told)
            self.assertEqual(wedge(joined(one)), told)
            self.assertEqual((wedge(one.inverse()), wedge(one.backwards())), (-told, -told))
            blocks = [Exchange(order, {name: one.lengths[name] for name in order}) for order in one.order.blocks()]
            self.assertEqual(total_of(wedge(block) for block in blocks), told)
            later, many = one, 0
            while later.order.is_whole and many < 8:
                later, many = rounded(later), many + 1
                self.assertEqual(wedge(later), told)
            for number in (Number(3, bottom=5), Number(2, 1, root=max(one.root, 2) if one.root else 2)):
                self.assertEqual(wedge(one.scaled(number)), told * number.norm)

    def test_one_behind_the_other(self):
        pairs = [(one, other.scaled(one.total.over(other.total))) for one in ALL[:40] for other in ALL[:40:3]
                 if one.root == other.root or not other.root or not one.root]
        self.assertGreater(len(pairs), 100)
        for one, other in pairs:
            self.assertEqual(wedge(behind(one, other)), wedge(one) + wedge(other))

    def test_without_a_root(self):
        for one in ALL:
            if one.root == 0 or len({str(both(length)[0]) for length in one.lengths.values()} - {"0"}) == 0:
                self.assertEqual(wedge(one), NONE)

    def test_wrong_arguments(self):
        self.refuses_all(InvalidExchange, wedge, but=EXCHANGES)


class PartTest(CallTest):

    def test_parts(self):
        loops = 0
        for one in ALL + [CANCELLED, LONG]:
            parts = parts_or_none(one)
            if parts is not None:
                self.assertEqual(total_of(wedge_of_part(part) for part in parts), wedge(one))
                for part in parts:
                    told = wedge_of_part(part)
                    self.assertEqual((told.sign != 0, told.root), (part.is_loop, 0))
                    if part.is_loop:
                        loops += 1
                        self.assertEqual(told, wedge(Exchange(part.order, part.lengths)))
        self.assertGreater(loops, 20)

    def test_one_part(self):
        for one in ALL:
            parts = parts_or_none(one)
            if parts is not None and len(parts) == 1:
                self.assertIs(wedge(one).sign == 0, not parts[0].is_loop)

    def test_loop_parts_that_cancel_one_another(self):
        first, second = parts_of(CANCELLED, reading_of(CANCELLED))
        self.assertTrue(first.is_loop and second.is_loop)
        self.assertEqual([str(wedge_of_part(part)) for part in (first, second)], ["-1", "1"])
        self.assertEqual((wedge(CANCELLED), comes_round(CANCELLED)), (NONE, False))

    def test_wrong_arguments(self):
        self.refuses_all(InvalidReading, wedge_of_part, but=PARTS)


class RoundTest(CallTest):

    def test_points(self):
        found = []
        for one in ALL + [CANCELLED]:
            parts = parts_or_none(one)
            if parts is not None:
                found.append(comes_round(one))
                self.assertIs(found[-1], not any(part.is_loop for part in parts))
                self.assertIs(found[-1], all(wedge_of_part(part).sign == 0 for part in parts))
                if found[-1]:
                    for point in points_of(one)[:3]:
                        behind_all, steps = one(point), 1
                        while behind_all != point:
                            behind_all, steps = one(behind_all), steps + 1
                        self.assertLess(steps, 10 ** 4)
        self.assertGreater(found.count(True), 20)
        self.assertGreater(found.count(False), 20)
        told = [comes_round(one) for one in (GOLD, FOUR, MIX, SPLIT, ONES)]
        self.assertEqual(told, [False, False, False, True, True])

    def test_no_reading_is_made(self):
        # Without a root, or with a wedge that is not 0, no bound is asked.
        self.assertIs(comes_round(Exchange.read("a b", "b a", "5000", "1"), most=1), True)
        self.assertIs(comes_round(Exchange.read("a b", "b a", "5000", "1r2"), most=1), False)
        self.assertIs(comes_round(FOUR, most=1), False)

    def test_bounds_of_readings(self):
        self.assertEqual([comes_round(LONG), comes_round(LONG, most=1000), comes_round(LONG, most=4000)], [True] * 3)
        self.refuses_many(999, comes_round, LONG, most=999)
        more = Exchange.read("a b", "b a", "1001r2", "1r2")
        self.refuses_many(1000, comes_round, more)
        self.assertIs(comes_round(more, most=1001), True)
        self.refuses_many(3, comes_round, CANCELLED, most=3)
        self.assertIs(comes_round(CANCELLED, most=4), False)

    def test_wrong_arguments(self):
        for most in (1, 0, None):
            def judged(value):
                return comes_round(value, most=most)
            self.refuses_all(InvalidExchange, judged, but=EXCHANGES)
        for one in (GOLD, ONES, LONG, CANCELLED):
            def counted(most):
                return comes_round(one, most=most)
            self.refuses_counts(1, 4000, counted)


if __name__ == "__main__":
    unittest.main()
