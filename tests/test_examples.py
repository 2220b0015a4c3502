"""The examples that the document prints in its stages 1, 2 and 3."""

import unittest

from pieceround.base.numbers import Number, have_one_root
from pieceround.base.orders import Order, count_orders, each_order
from pieceround.base.words import are_names, is_count, is_integer, is_name, new_names, nth_name
from pieceround.errors import InvalidNumber, ParseError
from tests.samples import CallTest


class ExamplesTest(CallTest):

    def test_words(self):
        told = [is_integer(-7), is_count(True), is_name("ab1"), are_names(("b", "a", "b")), nth_name(25), nth_name(26),
                nth_name(53), new_names(("a", "c"), 3)]
        self.assertEqual(told, [True, False, False, True, 'z', 'aa', 'bb', ('b', 'd', 'e')])

    def test_numbers(self):
        golden, root = Number(1, 1, root=5, bottom=2), Number(0, 1, root=2)
        told = [str(golden * golden), str(golden - 1), str(golden.over(golden.mirror)), golden.floor,
                golden.mirror.sign, str(golden.norm), (-root).floor, str(Number(6, bottom=-4)),
                Number(2, 0, root=7).root]
        self.assertEqual(told, ['(3+1r5)/2', '(-1+1r5)/2', '(-3-1r5)/2', 1, -1, '-1', -2, '-3/2', 0])
        told = [golden.compared(1), Number(7, bottom=5).compared(root), (root - root).sign, Number(3) == 3,
                Number.read("2-13r7") == Number(4, -26, root=7, bottom=2), str(root * Number(-3, bottom=4)),
                have_one_root((golden, Number(4))), have_one_root((golden, root)), golden == root]
        self.assertEqual(told, [1, -1, 0, False, True, '-3r2/4', True, False, False])

    def test_numbers_that_are_refused(self):
        self.refuses(InvalidNumber, Number(1, 1, root=5, bottom=2).compared, Number(0, 1, root=2))
        self.refuses(InvalidNumber, Number, 1, 1, root=8)
        self.assertEqual(self.refuses(ParseError, Number.read, "2/4").index, 0)

    def test_texts_that_are_named(self):
        for text in ("3", "-3/4", "1r5", "-1r2", "2+1r5", "2-13r7", "-1r5/2", "(1+1r5)/2"):
            self.assertEqual(str(Number.read(text)), text)

    def test_orders(self):
        order = Order.read("a b c d", "b a d c")
        told = [order.places, order.is_whole, [str(block) for block in order.blocks()], order.form("a", "b"),
                order.form("c", "a")]
        self.assertEqual(told, [(1, 0, 3, 2), False, ['a b / b a', 'c d / d c'], 1, 0])
        told = [str(one) for one in each_order(3)], count_orders(4)
        self.assertEqual(told, (['a b c / c a b', 'a b c / b c a', 'a b c / c b a'], 13))
        other = Order.read("a b c", "c a b")
        told = [other.needless, str(other.joined()), str(other.inverse()), str(other.backwards()),
                str(other.renamed({"a": "x", "b": "a", "c": "c"}))]
        self.assertEqual(told, [(('a', 'b'),), 'a c / c a', 'c a b / a b c', 'c b a / b a c', 'x a c / c x a'])


if __name__ == "__main__":
    unittest.main()
