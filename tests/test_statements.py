"""The main statements of the document, [0.15] to [0.22], over all stages, and what it says of its named exchanges."""

import itertools
import unittest

from pieceround.base.numbers import Number
from pieceround.base.orders import Order, each_order
from pieceround.glue.heights import Raised, heights_of
from pieceround.glue.surfaces import angles, form_rank, left_angle, marks, parity
from pieceround.piece.exchanges import Exchange, behind
from pieceround.rounds.loops import is_loop, is_winner_of_all, loop_exchange, loop_share, loops_of
from pieceround.rounds.parts import part_at, parts_of, reading_of
from pieceround.rounds.rounds import course_of, order_behind, round_kind, rounded
from pieceround.same.likeness import leading, periods
from pieceround.same.wedges import comes_round, wedge, wedge_of_part
from pieceround.trace.traces import count_traces, stretch_lengths, traces
from pieceround.trace.turns import return_traces
from pieceround.walk.cones import bar_of, has_course, lengths_with, trace_for_some
from pieceround.walk.programs import Program, are_alike, laid, parted_by
from pieceround.walk.walks import are_joined
from pieceround.way.far import counts_far, period_at, point_far
from tests.models import FOUR, GOLD, MIX, NAMED, ONES, OTHERS, SPLIT, points_of, random_exchanges, total_of
from tests.samples import CallTest

CANCELLED = Exchange.read("a b c d", "b a d c", "(1+1r5)/2", "1", "1", "(1+1r5)/2")
TURN = Order.read("a b", "b a")


def with_readings():
    found = []
    for one in [*NAMED, *OTHERS, CANCELLED, *random_exchanges(40, 151)]:
        try:
            found.append((one, reading_of(one, most=300)))
        except OverflowError:
            continue
    return found


READ = with_readings()


class ReadingsTest(CallTest):

    def test_parts_and_their_points(self):
        for one, reading in READ:
            parts = parts_of(one, reading)
            self.assertEqual(total_of(part.size for part in parts), one.total)
            for point in points_of(one)[:6]:
                part = parts[part_at(one, reading, point)[0]]
                period = period_at(one, reading, point)
                self.assertIs(period is None, part.is_loop)
                if period is not None and period < 500:
                    way = [point_far(one, reading, point, many) for many in range(1, period + 1)]
                    self.assertEqual([many for many, image in enumerate(way, 1) if image == point], [period])
                # The whole way lies in the part.
                image = point_far(one, reading, point, 10 ** 9)
                self.assertEqual(part_at(one, reading, image)[0], part_at(one, reading, point)[0])

    def test_shares_of_traces(self):
        for one in (GOLD, FOUR):
            reading, many = reading_of(one), 10 ** 14
            for point in points_of(one):
                for name, count in counts_far(one, reading, point, many).items():
                    told = one.total * count - one.lengths[name] * many
                    self.assertTrue(told.compared(10 ** 5) < 0 and told.compared(-10 ** 5) > 0)
        # MIX has one part, too: each name is met as often as its piece is long.
        counts = counts_far(MIX, reading_of(MIX), Number(0), 10 ** 14)
        told = MIX.total * counts["b"] - MIX.lengths["b"] * 10 ** 14
        self.assertTrue(told.compared(10 ** 5) < 0 and told.compared(-10 ** 5) > 0)

    def test_fractions_and_multiples_of_one_root(self):
        for one, reading in READ:
            if one.root == 0:
                for same in (one, one.scaled(Number(0, 3, root=7, bottom=2)), one.scaled(Number(1, 1, root=2))):
                    self.assertFalse(any(part.is_loop for part in parts_of(same, reading_of(same))))
                    self.assertIs(comes_round(same), True)

    def test_loops(self):
        done = 0
        for one, reading in READ:
            for part in parts_of(one, reading):
                if part.is_loop:
                    done += 1
                    self.assertEqual((part.share.norm, is_loop(part.order, part.loop)), (Number(1), True))
                    self.assertEqual(part.share * part.share.mirror, Number(1))
                    self.assertIs(is_winner_of_all(part.order, part.loop), True)
        self.assertGreater(done, 20)

    def test_wedges(self):
        for one, reading in READ:
            told = [wedge_of_part(part) for part in parts_of(one, reading)]
            self.assertEqual([number.sign != 0 for number in told], [part.is_loop for part in parts_of(one, reading)])
            self.assertEqual(total_of(told), wedge(one))
            if one.order.is_whole:
                self.assertEqual(wedge(rounded(one)), wedge(one))

    def test_traces(self):
        for one, reading in READ:
            if len(reading) == 1 and reading[0][0] == "loop":
                for many in (1, 2, 7):
                    self.assertEqual(count_traces(one, many), many * (len(one) - 1) + 1)
                    self.assertLessEqual(len(stretch_lengths(one, many)), 3 * (len(one) - 1))
                for names in traces(one, 2)[:3]:
                    self.assertEqual(len(return_traces(one, names)), len(one))


class AllLengthsTest(CallTest):

    def test_courses(self):
        for order in each_order(3):
            for course in itertools.product(("upper", "lower"), repeat=3):
                self.assertIs(has_course(order, course), True)
                self.assertEqual(course_of(Exchange(order, lengths_with(order, course)), 3), course)

    def test_traces_or_bars(self):
        for order in each_order(3):
            for names in itertools.product(order, repeat=4):
                self.assertIs(trace_for_some(order, names) is None, bar_of(order, (names,)) is not None)

    def test_programs(self):
        for one, other in itertools.product(each_order(3), repeat=2):
            first, second = Program((one, other)), Program((other, one))
            parted = parted_by(first, second)
            self.assertIs(are_alike(first, second), parted is None)
            if parted is not None:
                lengths, point = parted
                self.assertNotEqual(laid(first, lengths)(point), laid(second, lengths)(point))

    def test_surfaces(self):
        for one, _ in READ:
            if one.order.is_whole and round_kind(one) != "even":
                later = rounded(one)
                self.assertEqual(marks(later.order), marks(one.order))
                self.assertEqual((form_rank(later.order), left_angle(later.order), parity(later.order)),
                                 (form_rank(one.order), left_angle(one.order), parity(one.order)))
                raised = Raised(one, heights_of(one.order))
                self.assertEqual((raised.rounded().area, raised.rounded().rounded_back()), (raised.area, raised))

    def test_likeness(self):
        found = [one for one, _ in READ if comes_round(one)]
        for one, other in itertools.product(found[:25], repeat=2):
            if one.total == other.total and (one.root == 0 or other.root in (0, one.root)):
                self.assertIs(leading(one, other) is not None, periods(one) == periods(other))


class NotTrueTest(CallTest):

    def test_a_reading_of_several_parts(self):
        self.assertEqual([len(parts_of(one, reading_of(one))) for one in (SPLIT, CANCELLED, GOLD)], [2, 2, 1])

    def test_a_wedge_of_zero_with_points_that_never_come_back(self):
        self.assertEqual((wedge(CANCELLED), comes_round(CANCELLED)), (Number(0), False))
        self.assertIsNone(period_at(CANCELLED, reading_of(CANCELLED), Number(0)))

    def test_equal_totals_and_wedges_without_likeness(self):
        rest = Exchange.read("a", "a", "3")
        self.assertEqual((rest.total, wedge(rest)), (ONES.total, wedge(ONES)))
        self.assertIsNone(leading(ONES, rest))

    def test_each_name_of_a_loop_wins(self):
        for many in (2, 3, 4):
            for order in each_order(many):
                for course in loops_of(order, 6):
                    winners, one = set(), order
                    for kind in course:
                        winners.add(one.above[-1] if kind == "upper" else one.below[-1])
                        one = order_behind(one, (kind,))
                    self.assertEqual(winners, set(order))

    def test_a_trace_for_some_lengths_alone(self):
        self.assertIsNotNone(trace_for_some(TURN, ("a", "a")))
        self.assertEqual(traces(Exchange.read("a b", "b a", "1", "2"), 2), (("a", "b"), ("b", "a"), ("b", "b")))

    def test_equal_angles_without_a_walk(self):
        found = [(one, other) for one, other in itertools.combinations(each_order(5), 2)
                 if angles(one) == angles(other) and not are_joined(one, other)]
        self.assertGreater(len(found), 0)

    def test_programs_that_bring_points_back_for_some_lengths(self):
        twice, rest = Program((TURN, TURN)), Program((Order.read("a b", "a b"),))
        half = {"a": Number(1), "b": Number(1)}
        self.assertEqual(str(laid(twice, half)), "a / a: 2")
        self.assertIs(are_alike(twice, rest), False)


class NamedTest(CallTest):

    def test_what_is_said_of_them(self):
        self.assertEqual([reading_of(one)[0][0] for one in (GOLD, FOUR, MIX, SPLIT, ONES)],
                         ["loop", "loop", "rounds", "rounds", "rounds"])
        self.assertEqual(reading_of(GOLD), (("loop", (), ("lower", "upper")),))
        (_, lead, loop), = reading_of(FOUR)
        self.assertEqual((lead, len(loop)), ((), 16))
        self.assertEqual(loop_share(FOUR.order, loop), Number(9, 4, root=5))
        self.assertEqual(loop_exchange(FOUR.order, loop).scaled(FOUR.lengths["a"]), FOUR)
        (_, course, inner), = reading_of(MIX)
        self.assertEqual((course, inner[0][:2], len(inner[0][2])), (("lower", "even"), ("loop", ()), 4))
        self.assertEqual(parts_of(MIX, reading_of(MIX))[0].share, Number(3, 2, root=2))
        (_, course, inner), = reading_of(SPLIT)
        self.assertEqual((course, inner), (("even",), (("cycle",), ("cycle",))))
        self.assertEqual([comes_round(one) for one in NAMED], [False, False, False, True, True])

    def test_texts_of_them(self):
        self.assertEqual([str(one) for one in NAMED], [
            "a b / b a: (1+1r5)/2, 1", "a b c d / d c b a: 1r5, 1, 2+1r5, 1", "a b c / c b a: 1+1r2, 1, 1r2",
            "a b c / c b a: 1, 1r2, 1", "a b c / c b a: 1, 1, 1"])
        self.assertEqual(str(behind(GOLD, GOLD.inverse())), "a / a: (3+1r5)/2")


if __name__ == "__main__":
    unittest.main()
