"""The examples that the document prints in its stages 4 to 7."""

import unittest

from pieceround.base.numbers import Number
from pieceround.base.orders import Order
from pieceround.errors import InvalidOperation
from pieceround.piece.exchanges import Exchange, are_same, behind, cut_at, joined, powers
from pieceround.rounds.loops import is_loop, is_winner_of_all, loop_exchange, loop_share, loops_of
from pieceround.rounds.parts import is_reading, part_at, parts_of, reading_of
from pieceround.rounds.rounds import columns, course_of, order_behind, paths
from tests.models import FOUR, GOLD, MIX, ONES, SPLIT
from tests.samples import CallTest


class ExamplesTest(CallTest):

    def test_named_exchanges(self):
        # What "Examples" says of them.
        self.assertEqual(reading_of(GOLD), (("loop", (), ("lower", "upper")),))
        (word, lead, loop), = reading_of(FOUR)
        self.assertEqual((word, lead, len(loop)), ("loop", (), 16))
        shares = [str(part.share) for one in (GOLD, FOUR, MIX) for part in parts_of(one, reading_of(one))]
        self.assertEqual(shares, ["(3+1r5)/2", "9+4r5", "3+2r2"])
        (word, course, inner), = reading_of(MIX)
        self.assertEqual((word, course, inner[0][0], len(inner[0][2])), ("rounds", ("lower", "even"), "loop", 4))
        for one in (SPLIT, ONES):
            self.assertTrue(all(not part.is_loop for part in parts_of(one, reading_of(one))))
        self.assertEqual(reading_of(SPLIT), (("rounds", ("even",), (("cycle",), ("cycle",))),))

    def test_exchanges(self):
        three = Exchange.read("a b c", "c a b", "2", "1", "3")
        half = Number(5, bottom=2)
        told = [str(three), str(three.total), three.root, [str(three.shifts[name]) for name in three],
                [str(cut) for cut in three.lower_cuts]]
        self.assertEqual(told, ['a b c / c a b: 2, 1, 3', '6', 0, ['3', '3', '-3'], ['3', '5']])
        told = [three.piece_at(half), str(three(half)), str(three.back(Number(0))), str(three.inverse()),
                str(three.backwards())]
        self.assertEqual(told, ['b', '11/2', '3', 'c a b / a b c: 3, 2, 1', 'c b a / b a c: 3, 1, 2'])
        told = [str(joined(three)), are_same(three, joined(three)),
                str(cut_at(joined(three), (Number(4), Number(1), Number(3))))]
        self.assertEqual(told, ['a c / c a: 3, 3', True, 'a b c d / c d a b: 1, 2, 1, 2'])
        told = [str(behind(three, three)), [str(one) for one in powers(ONES, 2)], str(behind(GOLD, GOLD.inverse()))]
        self.assertEqual(told, ['a / a: 6', ['a b c / c b a: 1, 1, 1', 'a / a: 3'], 'a / a: (3+1r5)/2'])
        told = [str(GOLD.total), GOLD.root, str(GOLD(Number(1))), str(GOLD.scaled(Number(2)))]
        self.assertEqual(told, ['(3+1r5)/2', 5, '2', 'a b / b a: 1+1r5, 2'])

    def test_rounds(self):
        told = [course_of(GOLD, 4), course_of(MIX, 3), course_of(SPLIT, 5),
                course_of(Exchange.read("a b", "a b", "1", "2"), 5)]
        self.assertEqual(told, [('lower', 'upper', 'lower', 'upper'), ('lower', 'even', 'upper'), ('even',), ()])
        order = Order.read("a b c", "c b a")
        told = [str(order_behind(order, (kind,))) for kind in ("upper", "lower", "even")]
        self.assertEqual(told, ['a b c / c a b', 'a c b / c b a', 'a b / a b'])
        self.assertEqual(columns(order, ("upper", "lower")), {
            'a': {'a': 1, 'b': 0, 'c': 1}, 'b': {'a': 0, 'b': 1, 'c': 0}, 'c': {'a': 0, 'b': 1, 'c': 1}})
        told = [paths(order, ("upper", "lower")), str(order_behind(order, ("upper", "lower")))]
        self.assertEqual(told, [{'a': ('a', 'c'), 'b': ('b',), 'c': ('b', 'c')}, 'a b c / c a b'])

    def test_parts(self):
        self.assertEqual([reading_of(GOLD), reading_of(MIX)], [
            (('loop', (), ('lower', 'upper')),),
            (('rounds', ('lower', 'even'), (('loop', (), ('upper', 'lower', 'lower', 'upper')),)),)])
        reading = reading_of(SPLIT)
        told = reading, is_reading(ONES, reading), is_reading(GOLD, (("loop", ("lower",), ("upper", "lower")),))
        self.assertEqual(told, ((('rounds', ('even',), (('cycle',), ('cycle',))),), True, False))
        told = [(str(part.begin), str(part.length), part.counts, part.period, str(part.size))
                for part in parts_of(SPLIT, reading)]
        self.assertEqual(told, [('0', '1', {'a': 1, 'b': 0, 'c': 1}, 2, '2'),
                                ('1', '1r2', {'a': 0, 'b': 1, 'c': 0}, 1, '1r2')])
        told = [part_at(SPLIT, reading, Number(2)) == (1, Number(2), 0),
                part_at(SPLIT, reading, Number(3)) == (0, Number(2, -1, root=2), 1)]
        self.assertEqual(told, [True, True])
        part = parts_of(MIX, reading_of(MIX))[0]
        self.assertEqual([str(part.order), str(part.share), part.columns, str(part.size)], [
            'a c / c a', '3+2r2', {'a': {'a': 1, 'b': 1, 'c': 0}, 'c': {'a': 1, 'b': 0, 'c': 1}}, '2+2r2'])

    def test_loops(self):
        turn = Order.read("a b", "b a")
        told = [is_loop(turn, ("lower", "upper")), is_loop(turn, ("lower", "lower")),
                is_winner_of_all(turn, ("lower", "lower")), is_loop(turn, ("even",))]
        self.assertEqual(told, [True, False, False, False])
        told = [list(loops_of(turn, 1)), list(loops_of(turn, 2)), len(list(loops_of(turn, 3)))]
        self.assertEqual(told, [[], [('lower', 'upper'), ('upper', 'lower')], 6])
        told = [str(loop_share(turn, ("lower", "upper"))), str(loop_share(turn, ("lower", "lower", "upper"))),
                loop_exchange(turn, ("lower", "upper")).lengths["b"] == Number(-1, 1, root=5, bottom=2)]
        self.assertEqual(told, ['(3+1r5)/2', '2+1r3', True])
        self.refuses(InvalidOperation, loop_share, turn, ("lower",))


if __name__ == "__main__":
    unittest.main()
