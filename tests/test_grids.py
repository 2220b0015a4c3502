"""What pairs on a grid tell of numbers, and numbers in their order."""

import itertools
import unittest

from pieceround.base.grids import Grid, ascending, minus, plus
from pieceround.base.numbers import Number
from tests.samples import CallTest

NUMBERS = [Number(0), Number(1), Number(-7, bottom=6), Number(0, 1, root=5), Number(1, 1, root=5, bottom=2),
           Number(9, -4, root=5), Number(-1, 3, root=5, bottom=4), Number(2, bottom=9)]


class GridTest(CallTest):

    def test_pairs(self):
        for numbers in (NUMBERS, [number for number in NUMBERS if number.root == 0]):
            grid = Grid(numbers)
            self.assertIs(grid.has_root(), len(numbers) == len(NUMBERS))
            for one, other in itertools.product(numbers, repeat=2):
                first, second = grid.pair(one), grid.pair(other)
                self.assertEqual(grid.number(first), one)
                self.assertEqual(grid.number(plus(first, second)), one + other)
                self.assertEqual(grid.number(minus(first, second)), one - other)
                self.assertEqual(grid.compared(first, second), one.compared(other))
                self.assertEqual(grid.greater(first, second), first if one.compared(other) > 0 else second)
                self.assertEqual(grid.lesser(first, second), first if one.compared(other) < 0 else second)

    def test_proportions(self):
        rows = [[number for number in row] for row in itertools.permutations(
            [number for number in NUMBERS if number.sign > 0], 3)]
        factors = [Number(3, bottom=7), Number(2, 1, root=5), Number(3, -1, root=5)]
        scaled = [[number * factor for number in row] for row, factor in zip(rows, itertools.cycle(factors))]
        grid = Grid([number for row in rows + scaled for number in row])
        told = [grid.proportions([grid.pair(number) for number in row]) for row in rows]
        self.assertEqual(told, [grid.proportions([grid.pair(number) for number in row]) for row in scaled])
        for (one, first), (other, second) in itertools.product(zip(rows, told), repeat=2):
            self.assertIs(first == second, all(
                left * other[0] == right * one[0] for left, right in zip(one, other)))

    def test_ascending(self):
        for numbers in itertools.permutations(NUMBERS, 4):
            order = ascending(numbers)
            self.assertEqual(sorted(order), [0, 1, 2, 3])
            found = [numbers[index] for index in order]
            self.assertTrue(all(low.compared(high) < 0 for low, high in zip(found, found[1:])))
        self.assertEqual((ascending([]), ascending([Number(2), Number(1), Number(2)])), ([], [1, 0, 2]))


if __name__ == "__main__":
    unittest.main()
