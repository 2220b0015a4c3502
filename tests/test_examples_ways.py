"""The examples that the document prints in its stages 8 to 11."""

import unittest

from pieceround.base.numbers import Number
from pieceround.errors import InvalidTrace
from pieceround.piece.exchanges import Exchange
from pieceround.rounds.parts import reading_of
from pieceround.trace.traces import connections, count_traces, stretch_lengths, stretch_of, trace, traces
from pieceround.trace.turns import branchings, is_reversed, palindromes, return_traces, traces_graph
from pieceround.way.far import counts_far, period_at, point_far
from pieceround.way.returns import first_visit, returns_to
from tests.models import GOLD, MIX, ONES
from tests.samples import CallTest


class ExamplesTest(CallTest):

    def test_far_steps(self):
        reading = reading_of(GOLD)
        told = [str(point_far(GOLD, reading, Number(0), many)) for many in (5, -1, 100, 10 ** 30)]
        self.assertEqual(told, [
            '(7-1r5)/2', '(1+1r5)/2', '43-19r5', '427050983124842272306880251549-190983005625052575897706582817r5'])
        told = [counts_far(GOLD, reading, Number(0), 10 ** 30), period_at(GOLD, reading, Number(0))]
        self.assertEqual(told, [{'a': 618033988749894848204586834366, 'b': 381966011250105151795413165634}, None])
        reading = reading_of(MIX)
        told = [str(point_far(MIX, reading, Number(0), 4)), counts_far(MIX, reading, Number(0), 4),
                counts_far(MIX, reading, Number(0), 0)]
        self.assertEqual(told, ['-1+1r2', {'a': 2, 'b': 1, 'c': 1}, {'a': 0, 'b': 0, 'c': 0}])
        reading, half = reading_of(ONES), Number(1, bottom=2)
        told = [str(point_far(ONES, reading, half, 10 ** 30 - 1)), counts_far(ONES, reading, half, 5),
                period_at(ONES, reading, half), period_at(ONES, reading, Number(1))]
        self.assertEqual(told, ['5/2', {'a': 3, 'b': 0, 'c': 2}, 2, 1])

    def test_returns(self):
        ends = [Number(0), Number(1), Number(2)]
        told, times = returns_to(GOLD, ends[0], ends[1])
        self.assertEqual([str(told.order), [str(length) for length in told.lengths.values()], times],
                         ['a b / b a', ['(-1+1r5)/2', '(3-1r5)/2'], {'a': 3, 'b': 2}])
        half = Number(1, bottom=2)
        told, times = returns_to(ONES, half, Number(5, bottom=2))
        self.assertEqual([str(told.order), [str(length) for length in told.lengths.values()], times,
                          returns_to(ONES, half, ends[1])[1]],
                         ['a b c / a b c', ['1/2', '1', '1/2'], {'a': 2, 'b': 1, 'c': 2}, {'a': 2}])
        told = [first_visit(GOLD, reading_of(GOLD), ends[0], ends[2], GOLD.total),
                first_visit(ONES, reading_of(ONES), ends[0], ends[1], ends[2])]
        self.assertEqual(told, [2, None])
        self.refuses_many(2, returns_to, GOLD, ends[0], ends[1], most=2)
        # What is said below the example.
        self.assertEqual([trace(GOLD, point, time) for point, time in ((ends[0], 3), (Number(9, bottom=10), 2))],
                         [("a", "a", "b"), ("a", "b")])

    def test_traces(self):
        root = Number(0, 1, root=5)
        told = [trace(GOLD, Number(0), 5), traces(GOLD, 2),
                traces(GOLD, 3) == (("a", "a", "b"), ("a", "b", "a"), ("b", "a", "a"), ("b", "a", "b"))]
        self.assertEqual(told, [('a', 'a', 'b', 'a', 'a'), (('a', 'a'), ('a', 'b'), ('b', 'a')), True])
        told = [stretch_of(GOLD, ("a", "b")) == ((root - 1).over(2), (root + 1).over(2)), stretch_of(GOLD, ("b", "b")),
                stretch_of(GOLD, ()) == (Number(0), GOLD.total),
                stretch_lengths(GOLD, 2) == (Number(-1, 1, root=5, bottom=2), Number(1))]
        self.assertEqual(told, [True, None, True, True])
        told = [count_traces(GOLD, 1000), connections(GOLD, 1000), connections(MIX, 100), count_traces(MIX, 5),
                connections(ONES, 1), connections(ONES, 0), traces(ONES, 3)]
        self.assertEqual(told, [1001, {'b': None}, {'b': 0, 'c': None}, 7, {'b': 0, 'c': 0}, {'b': None, 'c': None},
                                (('a', 'c', 'a'), ('b', 'b', 'b'), ('c', 'a', 'c'))])

    def test_turns(self):
        told = [branchings(GOLD, 1), branchings(GOLD, 2), branchings(GOLD, 2, ahead=True), traces_graph(GOLD, 1)]
        self.assertEqual(told, [
            ((('a',), ('a', 'b')),), ((('b', 'a'), ('a', 'b')),), ((('a', 'b'), ('a', 'b')),),
            {('a',): (('a',), ('b',)), ('b',): (('a',),)}])
        told = [return_traces(GOLD, ("b",)), return_traces(GOLD, ("a",)), return_traces(GOLD, ("a", "a")),
                palindromes(GOLD, 2), palindromes(GOLD, 3), is_reversed(GOLD.order)]
        self.assertEqual(told, [
            (('b', 'a', 'a'), ('b', 'a')), (('a',), ('a', 'b')), (('a', 'a', 'b'), ('a', 'a', 'b', 'a', 'b')),
            (('a', 'a'),), (('a', 'b', 'a'), ('b', 'a', 'b')), True])
        told = [branchings(ONES, 1), traces_graph(ONES, 2), return_traces(ONES, ("a",)), return_traces(ONES, ("b", "b")),
                palindromes(Exchange.read("a b", "b a", "1", "1"), 2)]
        self.assertEqual(told, [
            (), {('a', 'c'): (('c', 'a'),), ('b', 'b'): (('b', 'b'),), ('c', 'a'): (('a', 'c'),)}, (('a', 'c'),),
            (('b',),), ()])
        self.refuses(InvalidTrace, return_traces, GOLD, ("b", "b"))


if __name__ == "__main__":
    unittest.main()
