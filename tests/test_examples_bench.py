"""The examples that the document prints in its stages 16 to 19."""

import unittest

from pieceround.base.numbers import Number
from pieceround.base.orders import Order
from pieceround.errors import Refused
from pieceround.glue.heights import Raised, are_right, heights_of
from pieceround.piece.exchanges import Exchange, behind
from pieceround.rounds.rounds import rounded
from pieceround.same.likeness import is_leading, is_swaps, leading, periods, swaps
from pieceround.same.wedges import comes_round, wedge
from pieceround.use.bench import Bench
from tests.models import FOUR, GOLD, MIX, ONES, SPLIT
from tests.samples import CallTest


class ExamplesTest(CallTest):

    def test_heights(self):
        raised = Raised(GOLD, {"a": Number(1), "b": Number(-2)})
        told = [str(rise) for rise in raised.rises.values()], str(raised.area), raised.back_kind
        self.assertEqual(told, (['2', '1'], '2+1r5', 'upper'))
        later, earlier = raised.rounded(), raised.rounded_back()
        told = [[str(one) for one in later.heights.values()], [str(one) for one in later.rises.values()],
                str(later.area), later.back_kind]
        self.assertEqual(told, [['3', '-2'], ['2', '3'], '2+1r5', 'lower'])
        told = [[str(one) for one in earlier.exchange.lengths.values()], [str(one) for one in earlier.heights.values()],
                earlier.back_kind, raised.course_back(9)]
        self.assertEqual(told, [['(1+1r5)/2', '(3+1r5)/2'], ['1', '-1'], None, ('upper',)])
        told = [later.rounded_back() == raised, earlier.rounded() == raised, str(raised),
                are_right(GOLD.order, raised.heights), are_right(GOLD.order, {"a": Number(1), "b": Number(0)})]
        self.assertEqual(told, [True, True, 'raised a b / b a', True, False])
        error = self.refuses(Refused, Raised(ONES, heights_of(ONES.order)).rounded)
        self.assertEqual(error.reason, ('even',))

    def test_wedges(self):
        told = [str(wedge(one)) for one in (GOLD, FOUR, MIX, SPLIT, ONES, GOLD.inverse())]
        self.assertEqual(told, ['-1', '-8', '2', '0', '0', '1'])
        told = [str(wedge(behind(GOLD, GOLD))), str(wedge(rounded(FOUR))), comes_round(FOUR), comes_round(SPLIT)]
        self.assertEqual(told, ['-2', '-8', False, True])

    def test_likeness(self):
        turned = Exchange(Order(("a", "b", "c"), ("b", "a", "c")), {"a": Number(1), "b": Number(1), "c": Number(1)})
        told = [periods(ONES) == {1: Number(1), 2: Number(2)}, periods(SPLIT) == {1: Number(0, 1, root=2), 2: Number(2)},
                periods(turned) == periods(ONES), leading(ONES, SPLIT)]
        self.assertEqual(told, [True, True, True, None])
        values = (((Number(0), Number(0), Number(1), 2), (Number(1), Number(2), Number(1), 1)),
                  ((Number(2), Number(0), Number(1), 2), (Number(1), Number(2), Number(1), 1)),
                  ((Number(0), Number(0), Number(1), 2), (Number(2), Number(2), Number(1), 1)))
        self.assertEqual([is_leading(ONES, turned, value) for value in values], [True, True, False])
        order = Order(("a", "b", "c"), ("c", "b", "a"))
        told = [is_swaps(order, (("a", "b"), ("a", "c"), ("b", "c"))),
                is_swaps(order, (("b", "c"), ("a", "c"), ("a", "b"))), is_swaps(order, (("a", "c"),)),
                swaps(Order(("a", "b"), ("a", "b"))), len(swaps(order))]
        self.assertEqual(told, [True, True, False, (), 3])

    def test_bench(self):
        bench, kept = Bench(GOLD), ("names", 2)
        told = [bench.lines, bench.demand(kept), bench.round(), bench.round(), str(bench), kept in bench]
        self.assertEqual(told, [
            ('upper a b', 'lower b a', 'length a (1+1r5)/2', 'length b 1'), ((), ()),
            (('length a (1+1r5)/2',), ('length a (-1+1r5)/2',)), (('length b 1',), ('length b (3-1r5)/2',)),
            'bench of 2 names, 1 pledges', True])
        told = [bench.scale(Number(3, 1, root=5, bottom=2)), bench.exchange == GOLD, bench.changes]
        self.assertEqual(told, [
            (('length a (-1+1r5)/2', 'length b (3-1r5)/2'), ('length a (1+1r5)/2', 'length b 1')), True, 4])
        self.assertEqual(self.refuses(Refused, bench.cut, (Number(1),)).reason, ("names", 2))
        told = [bench.waive(kept), bench.turn(), str(bench.wedge), bench.undo(many=2), len(bench)]
        self.assertEqual(told, [
            ((), ()), (('lower b a', 'upper a b'), ('lower a b', 'upper b a')), '1',
            (('lower a b', 'upper b a'), ('lower b a', 'upper a b')), 1])
        told = [bench.during(lambda same: same.rename({"a": "y", "b": "x"})), bench.redo(),
                bench.demand(("trace", ("a", "a", "b"))), "length b 1" in bench]
        self.assertEqual(told, [
            (('length a (1+1r5)/2', 'length b 1', 'lower b a', 'upper a b'),
             ('length x 1', 'length y (1+1r5)/2', 'lower x y', 'upper y x')), ((), ()), ((), ()), True])


if __name__ == "__main__":
    unittest.main()
