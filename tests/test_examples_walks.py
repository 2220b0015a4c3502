"""The examples that the document prints in its stages 12 to 15."""

import unittest

from pieceround.base.numbers import Number
from pieceround.base.orders import Order
from pieceround.glue.surfaces import angles, corner_walk, corners, form_rank, genus, is_frame, marks, parity
from pieceround.walk.cones import bar_of, has_course, is_bar, lengths_with, trace_for_some, traces_together
from pieceround.walk.programs import Program, are_alike, cases_of, is_cases, laid, parted_by
from pieceround.walk.walks import are_joined, class_of, is_closed, is_walk, moved, renaming_of, walk_between
from tests.models import FOUR, GOLD, MIX, ONES
from tests.samples import CallTest


class ExamplesTest(CallTest):

    def test_walks(self):
        told = [moved((2, 1, 0), "upper"), moved((2, 1, 0), "lower"), class_of(ONES.order)]
        self.assertEqual(told, [(1, 2, 0), (2, 0, 1), ((1, 2, 0), (2, 0, 1), (2, 1, 0))])
        one, other = Order.read("a b c d", "d c b a"), Order.read("a b c d", "d b c a")
        told = [len(class_of(one)), len(class_of(other)), are_joined(one, other), walk_between(one, other),
                is_closed(4, class_of(other)), is_closed(3, ((2, 1, 0),))]
        self.assertEqual(told, [7, 6, False, None, True, False])
        told = [walk_between(ONES.order, Order.read("x y z", "y z x")), is_walk(one, one, ("lower", "lower", "lower")),
                is_walk(one, one, ["upper"]), is_walk(one, one, ())]
        self.assertEqual(told, [('lower',), True, False, True])
        told = [renaming_of(other, ("upper", "upper", "lower", "upper", "lower")), renaming_of(one, ("upper",))]
        self.assertEqual(told, [{'a': 'a', 'b': 'c', 'c': 'b', 'd': 'd'}, None])

    def test_cones(self):
        order = Order.read("a b", "b a")
        told = [has_course(order, ("upper", "even")), has_course(order, ("even", "upper")),
                has_course(Order.read("a b", "a b"), ())]
        self.assertEqual(told, [True, False, True])
        told = [lengths["a"].compared(lengths["b"])
                for lengths in (trace_for_some(order, ("a", "b", "b")), lengths_with(order, ("upper", "lower")))]
        self.assertEqual(told, [-1, -1])
        told = [trace_for_some(order, ("a", "a", "b", "b")), traces_together(order, (("a", "a"), ("b", "b")))]
        self.assertEqual(told, [None, None])
        values = (((0, 0, 1, 1), (1, 1, 0, 1)), ((0, 0, 1, 2), (1, 1, 0, 2)), ((0, 0, 1, 2), (1, 1, 0, 1)),
                  ((2, 0, 1, 1),), ())
        told = [is_bar(order, (("a", "a"), ("b", "b")), value) for value in values]
        self.assertEqual(told, [True, True, False, False, False])
        told = [bar_of(order, (("a", "b", "b"),)), bar_of(order, (("a", "a", "b", "b"),)) is None]
        self.assertEqual(told, [None, False])

    def test_programs(self):
        turn, idle = Order.read("a b", "b a"), Order.read("a b", "a b")
        twice, back, rest = Program((turn, turn)), Program((turn, turn.inverse())), Program((idle,))
        told = [are_alike(back, rest), are_alike(twice, rest),
                Program((turn,)).inverse() == Program((turn.inverse(),)), len(back), str(back)]
        self.assertEqual(told, [True, False, True, 2, 'a b / b a, b a / a b'])
        half, rows = {"a": Number(1), "b": Number(1)}, cases_of(back, rest)
        told = [laid(twice, half)(Number(1, bottom=2)) == Number(1, bottom=2), [word for word, bar in rows]]
        self.assertEqual(told, [True, [('a', 'a', 'a'), ('a', 'a', 'b'), ('a', 'b'), ('b', 'a'), ('b', 'b', 'a'),
                                       ('b', 'b', 'b')]])
        told = [is_cases(back, rest, rows), is_cases(back, rest, rows[1:]), cases_of(twice, rest),
                parted_by(back, rest)]
        self.assertEqual(told, [True, False, None, None])
        right = (
            (("a", "a", "a"), None), (("a", "a", "b"), ((2, 0, 1),)), (("a", "b"), ((0, 1, 1),)),
            (("b", "a"), ((1, 0, 1),)), (("b", "b", "a"), ((0, 2, 1),)), (("b", "b", "b"), None))
        told = [is_cases(back, rest, right),
                is_cases(back, rest, right[:2] + ((("a", "b"), ((1, 0, 1),)),) + right[3:])]
        self.assertEqual(told, [True, False])

    def test_surfaces(self):
        told = [corner_walk(GOLD.order), corners(GOLD.order), corner_walk(MIX.order), corners(MIX.order),
                corners(FOUR.order)]
        self.assertEqual(told, [(1, 2, 0), ((0, 1, 2),), (2, 3, 0, 1), ((0, 2), (1, 3)), ((0, 3, 1, 4, 2),)])
        told = [(genus(one.order), form_rank(one.order), marks(one.order)) for one in (GOLD, MIX, FOUR)]
        self.assertEqual(told, [(1, 2, ((1,), 1, -1)), (1, 2, ((1, 1), 1, -1)), (2, 4, ((3,), 3, -1))])
        order = Order.read("a b c d", "b a d c")
        told = [corners(order), genus(order), parity(order), angles(Order.read("a b", "a b")),
                parity(Order.read("a b", "a b"))]
        self.assertEqual(told, [((0, 1, 3, 4, 2),), 2, 1, (0, 0, 1), 0])
        told = [marks(Order.read("a b c d e", "e d c b a")), marks(Order.read("a b c d e f", "f e d c b a")),
                corners(Order.read("a b c", "c a b"))]
        self.assertEqual(told, [((2, 2), 2, 0), ((5,), 5, 1), ((0, 2, 3), (1,))])
        told = [is_frame(GOLD.order, (((("a",), ("b",)),), ())),
                is_frame(MIX.order, (((("a",), ("b",)),), (("a", "b", "c"),))),
                is_frame(MIX.order, (((("a",), ("b",)),), (("c",),)))]
        self.assertEqual(told, [True, True, False])


if __name__ == "__main__":
    unittest.main()
