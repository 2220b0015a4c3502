"""Stage 2: numbers, and what [0.7] and [0.9] say of them."""

import decimal
import itertools
import math
import re
import unittest

from pieceround.base import numbers
from pieceround.base.numbers import Number, have_one_root
from pieceround.base.orders import Order
from pieceround.errors import InvalidNumber, InvalidOperation, ParseError
from tests.samples import (
    ALL_KINDS, HUNDRED, INTEGERS, LISTS, LONG_INTEGERS, SIXTY, SIXTY_ONE, CallTest, all_but,
)

GOLDEN = Number(1, 1, root=5, bottom=2)
ROOT = Number(0, 1, root=2)
SQUAREFREE = [root for root in range(2, 1000) if all(root % (k * k) for k in range(2, 32))]
HUGE = 10 ** 3999 + 7      # 4000 digits
NOT_NUMBERS = [value for value in ALL_KINDS if not isinstance(value, Number)]
# Neither numbers nor integers: booleans are among them.
NO_OPERANDS = [value for value in all_but(INTEGERS, LONG_INTEGERS) if not isinstance(value, Number)]


def some_numbers(root):
    """Numbers of all signs, with this root and without one."""
    told = []
    for top in (-7, -3, -1, 0, 1, 2, 6):
        for part in (-5, -2, 0, 1, 3):
            for bottom in (-4, 1, 3, 6):
                told.append(Number(top, part, root=root, bottom=bottom))
    return told


def value_of(number):
    """The value with a hundred digits."""
    with decimal.localcontext() as context:
        context.prec = 100
        return (number.top + number.part * decimal.Decimal(number.root).sqrt()) / decimal.Decimal(number.bottom)


def form_of(number):
    return number.top, number.part, number.root, number.bottom


def is_short_text(text):
    """Whether a text of at most four characters, which are too few for a sum, is that of a number."""
    found = re.fullmatch("(?:(0|-?[1-9][0-9]*)|(-?[1-9][0-9]*)r([1-9][0-9]*))(?:/([1-9][0-9]*))?", text)
    if found is None:
        return False
    top, part, root, bottom = found.groups()
    if (root is not None and int(root) not in SQUAREFREE) or bottom == "1":
        return False
    return math.gcd(int(top or 0), int(part or 0), int(bottom or 1)) == 1


class MakingTest(CallTest):

    def test_constant(self):
        self.assertEqual(numbers.MAX_ROOT, 999)

    def test_defaults(self):
        self.assertEqual(form_of(Number(3)), (3, 0, 0, 1))
        self.assertEqual(form_of(Number(3, 0)), (3, 0, 0, 1))
        self.assertEqual(form_of(Number(3, 2, root=7)), (3, 2, 7, 1))
        self.assertEqual(form_of(Number(3, bottom=2)), (3, 0, 0, 2))

    def test_least_form(self):
        cases = [
            ((6, 0, 0, -4), (-3, 0, 0, 2)),
            ((-6, 0, 0, -4), (3, 0, 0, 2)),
            ((0, 0, 0, -9), (0, 0, 0, 1)),
            ((0, 0, 7, 9), (0, 0, 0, 1)),
            ((4, -26, 7, 2), (2, -13, 7, 1)),
            ((6, 9, 5, 15), (2, 3, 5, 5)),
            ((6, 9, 5, 4), (6, 9, 5, 4)),
            ((6, 10, 5, -4), (-3, -5, 5, 2)),
            ((0, 4, 2, -6), (0, -2, 2, 3)),
            ((0, 5, 2, 5), (0, 1, 2, 1)),
            ((2, 0, 7, 1), (2, 0, 0, 1)),
            ((-4, 0, 998, 8), (-1, 0, 0, 2)),
        ]
        for told, least in cases:
            top, part, root, bottom = told
            self.assertEqual(form_of(Number(top, part, root=root, bottom=bottom)), least)

    def test_all_least_forms_are_least(self):
        for number in some_numbers(3):
            top, part, root, bottom = form_of(number)
            self.assertGreaterEqual(bottom, 1)
            self.assertEqual(math.gcd(top, part, bottom), 1)
            self.assertEqual(root, 3 if part else 0)

    def test_roots(self):
        for root in range(-3, 1100):
            for part in (0, 1):
                if root in SQUAREFREE or (root == 0 and part == 0):
                    self.assertEqual(Number(1, part, root=root).root, root if part else 0)
                else:
                    self.refuses(InvalidNumber, Number, 1, part, root=root)

    def test_told_edges_of_roots(self):
        self.assertEqual(Number(5, 0, root=0).root, 0)
        self.assertEqual(Number(5, 1, root=2).root, 2)
        self.assertEqual(Number(5, 1, root=998).root, 998)
        for root in (1, 4, 8, 999, 1000, 1001, -2, 961, SIXTY, SIXTY_ONE, -SIXTY_ONE):
            self.refuses(InvalidNumber, Number, 5, 1, root=root)
            self.refuses(InvalidNumber, Number, 5, 0, root=root)
        self.refuses(InvalidNumber, Number, 5, 1, root=0)
        self.refuses(InvalidNumber, Number, 5, 1)

    def test_integers_of_any_length(self):
        for value in LONG_INTEGERS + [HUGE, -HUGE]:
            self.assertEqual(form_of(Number(value)), (value, 0, 0, 1))
            self.assertEqual(form_of(Number(1, value, root=5)), (1, value, 5, 1))
            sign = 1 if value > 0 else -1
            self.assertEqual(form_of(Number(1, bottom=value)), (sign, 0, 0, abs(value)))
            self.assertEqual(form_of(Number(value, value, root=2, bottom=value)), (1, 1, 2, 1))

    def test_wrong_arguments(self):
        for value in all_but(INTEGERS, LONG_INTEGERS):
            self.refuses(InvalidNumber, Number, value)
            self.refuses(InvalidNumber, Number, 1, value)
            self.refuses(InvalidNumber, Number, 1, value, root=2)
            self.refuses(InvalidNumber, Number, 1, root=value)
            self.refuses(InvalidNumber, Number, 1, 1, root=value)
            self.refuses(InvalidNumber, Number, 1, bottom=value)
        self.refuses(InvalidNumber, Number, 1, bottom=0)
        self.refuses(InvalidNumber, Number, 0, bottom=0)
        self.refuses(InvalidNumber, Number, 1, 1, root=2, bottom=0)
        self.refuses(InvalidNumber, Number, "a", [], root=4, bottom=0)
        self.refuses(InvalidNumber, Number, 1, 1, root=4, bottom=None)

    def test_root_and_bottom_are_passed_by_keyword(self):
        self.assertRaises(TypeError, Number, 1, 1, 5)
        self.assertRaises(TypeError, Number, 1, 1, 5, 2)
        self.assertEqual(form_of(Number(1, 1, bottom=2, root=5)), (1, 1, 5, 2))

    def test_numbers_never_change(self):
        number = Number(1, 1, root=5, bottom=2)
        for name in ("top", "part", "root", "bottom", "sign", "floor", "mirror", "norm"):
            with self.assertRaises(AttributeError):
                setattr(number, name, 3)
        for other in (number, 2, Number(3, -1, root=5)):
            self.assertIsInstance(number + other - other * other, Number)
            number.over(other)
            number.compared(other)
        self.assertEqual(form_of(-number), (-1, -1, 5, 2))
        self.assertEqual(form_of(number), (1, 1, 5, 2))

    def test_numbers_are_not_iterated_over(self):
        with self.assertRaises(TypeError):
            iter(GOLDEN)
        with self.assertRaises(TypeError):
            list(GOLDEN)


class PropertiesTest(CallTest):

    def test_sign(self):
        for root in (2, 3, 5, 997):
            for number in some_numbers(root):
                value = value_of(number)
                self.assertEqual(number.sign, (value > 0) - (value < 0))
        # The square root of 2 is told from fractions that come very close to it.
        self.assertEqual([Number(1393, -985, root=2).sign, Number(3363, -2378, root=2).sign], [-1, 1])
        self.assertEqual([Number(-1393, 985, root=2).sign, Number(-3363, 2378, root=2).sign], [1, -1])
        self.assertEqual([Number(0).sign, Number(-HUGE).sign, Number(HUGE, -HUGE, root=2).sign], [0, -1, -1])

    def test_floor(self):
        for root in (2, 3, 5, 997):
            for number in some_numbers(root):
                self.assertEqual(number.floor, math.floor(value_of(number)))
                self.assertIs(number.floor.__class__, int)
        cases = [
            (Number(0), 0), (Number(7, bottom=2), 3), (Number(-7, bottom=2), -4), (Number(-8, bottom=2), -4),
            (ROOT, 1), (-ROOT, -2), (GOLDEN, 1), (GOLDEN.mirror, -1), (Number(0, 1, root=2, bottom=2), 0),
            (Number(0, -1, root=2, bottom=2), -1), (Number(0, 10, root=2, bottom=3), 4), (Number(HUGE), HUGE),
        ]
        for number, floor in cases:
            self.assertEqual(number.floor, floor)

    def test_floor_of_long_numbers(self):
        for part in (HUGE, -HUGE, 3 * HUNDRED):
            for top, bottom in ((0, 1), (HUNDRED, 7), (-HUNDRED, HUNDRED + 1)):
                number = Number(top, part, root=7, bottom=bottom)
                floor = number.floor
                self.assertEqual((number - floor).sign, 1)
                self.assertEqual((number - floor - 1).sign, -1)

    def test_mirror_and_norm(self):
        for number in some_numbers(5):
            top, part, root, bottom = form_of(number)
            self.assertEqual(form_of(number.mirror), (top, -part, root, bottom))
            self.assertEqual(number.norm, number * number.mirror)
            self.assertEqual(number.norm.root, 0)
            self.assertEqual(number.norm, Number(top * top - root * part * part, bottom=bottom * bottom))
            self.assertEqual(number.norm == Number(0), number.sign == 0)
        self.assertEqual(GOLDEN.norm, Number(-1))
        self.assertEqual(Number(3, bottom=4).norm, Number(9, bottom=16))

    def test_mirrors_and_norms_of_sums_and_products(self):
        told = some_numbers(3)[::3]
        for one in told:
            for other in told:
                self.assertEqual((one + other).mirror, one.mirror + other.mirror)
                self.assertEqual((one * other).mirror, one.mirror * other.mirror)
                self.assertEqual((one * other).norm, one.norm * other.norm)

    def test_what_is_not_true(self):
        self.assertEqual((GOLDEN.sign, GOLDEN.mirror.sign), (1, -1))
        unit = Number(3, 2, root=2)
        self.assertEqual((unit.norm, unit == Number(1)), (Number(1), False))
        self.assertEqual((ROOT + ROOT).floor, 2)
        self.assertEqual((ROOT + ROOT + ROOT).floor, 4)
        self.assertNotEqual(Number(0, 1, root=2), Number(0, 1, root=3))


class OperatorsTest(CallTest):

    def test_against_another_way_of_counting(self):
        for root in (2, 7):
            told = some_numbers(root)[::2]
            for one in told:
                for other in told:
                    bottom = one.bottom * other.bottom
                    self.assertEqual(one + other, Number(
                        one.top * other.bottom + other.top * one.bottom,
                        one.part * other.bottom + other.part * one.bottom, root=root, bottom=bottom))
                    self.assertEqual(one * other, Number(
                        one.top * other.top + root * one.part * other.part,
                        one.top * other.part + one.part * other.top, root=root, bottom=bottom))
                    self.assertEqual(one - other + other, one)
                    self.assertEqual(one - other, -(other - one))
                    self.assertEqual(one.compared(other), (one - other).sign)
                    if other.sign:
                        self.assertEqual(one.over(other) * other, one)

    def test_values(self):
        tiny = decimal.Decimal(10) ** -90
        told = some_numbers(5)[::7]
        for one in told:
            for other in told:
                with decimal.localcontext() as context:
                    context.prec = 100
                    left, right = value_of(one), value_of(other)
                    self.assertLess(abs(value_of(one + other) - left - right), tiny)
                    self.assertLess(abs(value_of(one - other) - left + right), tiny)
                    self.assertLess(abs(value_of(one * other) - left * right), tiny)
                    self.assertLess(abs(value_of(-one) + left), tiny)
                    if other.sign:
                        self.assertLess(abs(value_of(one.over(other)) - left / right), tiny)

    def test_integers_on_the_right(self):
        for number in some_numbers(3)[::5]:
            for value in INTEGERS + LONG_INTEGERS + [HUGE, -HUGE]:
                same = Number(value)
                self.assertEqual(number + value, number + same)
                self.assertEqual(number - value, number - same)
                self.assertEqual(number * value, number * same)
                self.assertEqual(number.compared(value), number.compared(same))
                if value:
                    self.assertEqual(number.over(value), number.over(same))
        self.assertEqual([str(GOLDEN + 1), str(GOLDEN - 1), str(GOLDEN * 2), str(GOLDEN.over(-3))],
                         ["(3+1r5)/2", "(-1+1r5)/2", "1+1r5", "(-1-1r5)/6"])

    def test_long_integers(self):
        self.assertEqual(form_of(Number(1) + HUGE), (HUGE + 1, 0, 0, 1))
        self.assertEqual(form_of(Number(1, 1, root=5) - HUGE), (1 - HUGE, 1, 5, 1))
        self.assertEqual(form_of(Number(1, 2, root=5) * HUGE), (HUGE, 2 * HUGE, 5, 1))
        self.assertEqual(form_of(Number(1, 2, root=5).over(-HUGE)), (-1, -2, 5, HUGE))
        self.assertEqual([Number(HUGE).compared(HUGE), Number(HUGE).compared(HUGE + 1), Number(0).compared(-HUGE)],
                         [0, -1, 1])

    def test_results_can_be_fractions(self):
        self.assertEqual(form_of(ROOT * ROOT), (2, 0, 0, 1))
        self.assertEqual(form_of(ROOT - ROOT), (0, 0, 0, 1))
        self.assertEqual(form_of(GOLDEN + GOLDEN.mirror), (1, 0, 0, 1))
        self.assertEqual(form_of(ROOT.over(ROOT * 3)), (1, 0, 0, 3))
        self.assertEqual(form_of(ROOT * 0), (0, 0, 0, 1))
        # A root that is gone does not stand in the way of another one.
        self.assertEqual(str((ROOT - ROOT) + GOLDEN), "(1+1r5)/2")

    def test_fractions_go_with_each_root(self):
        half = Number(1, bottom=2)
        self.assertEqual([str(half + ROOT), str(ROOT + half), str(half * ROOT), str(half.over(ROOT))],
                         ["(1+2r2)/2", "(1+2r2)/2", "1r2/2", "1r2/4"])
        self.assertEqual([half.compared(ROOT), ROOT.compared(half)], [-1, 1])

    def test_comparing(self):
        self.assertEqual([GOLDEN.compared(1), GOLDEN.compared(2), GOLDEN.compared(GOLDEN)], [1, -1, 0])
        self.assertEqual([Number(7, bottom=5).compared(ROOT), Number(17, bottom=12).compared(ROOT)], [-1, 1])
        self.assertEqual([(-ROOT).compared(-1), (-ROOT).compared(-2), Number(-1).compared(ROOT)], [-1, 1, -1])
        self.assertEqual([Number(3).compared(3), Number(1, bottom=3).compared(Number(1, bottom=2))], [0, -1])

    def test_unlike_roots(self):
        other = Number(1, 1, root=3)
        for call in (lambda: ROOT + other, lambda: ROOT - other, lambda: ROOT * other):
            self.refuses(InvalidNumber, call)
        self.refuses(InvalidNumber, ROOT.over, other)
        self.refuses(InvalidNumber, ROOT.compared, other)

    def test_operands_of_another_kind(self):
        self.assertIn(True, NO_OPERANDS)
        for value in NO_OPERANDS:
            for number in (Number(2), GOLDEN):
                for call in (lambda: number + value, lambda: number - value, lambda: number * value):
                    with self.assertRaises(TypeError):
                        call()
                self.refuses(InvalidNumber, number.over, value)
                self.refuses(InvalidNumber, number.compared, value)

    def test_division_by_zero(self):
        for number in (Number(0), Number(3), GOLDEN):
            for zero in (0, Number(0), ROOT - ROOT, Number(0, 0, root=7)):
                self.refuses(InvalidOperation, number.over, zero)
        for value in (False, None, "", []):
            self.refuses(InvalidNumber, GOLDEN.over, value)

    def test_equality(self):
        self.assertIs(Number(2, bottom=4) == Number(1, bottom=2), True)
        self.assertIs(Number(2, bottom=4) != Number(1, bottom=2), False)
        self.assertIs(Number(4, -26, root=7, bottom=2) == Number(2, -13, root=7), True)
        self.assertIs(Number(2, 0, root=7) == Number(2, 0, root=5), True)
        base = Number(2, 3, root=5, bottom=7)
        for other in (Number(1, 3, root=5, bottom=7), Number(2, 4, root=5, bottom=7),
                      Number(2, 3, root=6, bottom=7), Number(2, 3, root=5, bottom=8), base.mirror, -base):
            self.assertIs(base == other, False)
            self.assertIs(base != other, True)

    def test_equality_with_all_kinds(self):
        for number in (Number(0), Number(1), Number(-7), GOLDEN):
            for value in NOT_NUMBERS:
                self.assertIs(number == value, False)
                self.assertIs(value == number, False)
                self.assertIs(number != value, True)


class TextTest(CallTest):

    TEXTS = [
        ("0", (0, 0, 0, 1)), ("3", (3, 0, 0, 1)), ("-3", (-3, 0, 0, 1)), ("-3/4", (-3, 0, 0, 4)),
        ("1r5", (0, 1, 5, 1)), ("-1r2", (0, -1, 2, 1)), ("2+1r5", (2, 1, 5, 1)), ("2-13r7", (2, -13, 7, 1)),
        ("-2-13r7", (-2, -13, 7, 1)), ("-1r5/2", (0, -1, 5, 2)), ("(1+1r5)/2", (1, 1, 5, 2)),
        ("(-1-1r998)/10", (-1, -1, 998, 10)), ("7r3/4", (0, 7, 3, 4)), ("10/11", (10, 0, 0, 11)),
    ]
    NO_TEXTS = [
        "", " ", "-", "+", "r", "/", "()", "(", ")", "1 ", " 1", "+1", "-0", "00", "01", "-01", "1.0", "1e3", "1_0",
        "2/4", "3/1", "0/2", "3/0", "3/-4", "-3/-4", "3/+4", "3/04", "3//4", "3/4/5", "3/", "/4", "(3)", "(3)/4",
        "(3/4)", "3 / 4", "1r", "r5", "+1r5", "-r5", "1r4", "1r1", "1r0", "1r8", "1r999", "1r1000", "1r1009", "1r05",
        "1r-5", "1r+5", "01r5", "0r5", "-0r5", "0+1r5", "-0+1r5", "2+0r5", "2-0r5", "2+-1r5", "2-+1r5", "2--1r5",
        "2++1r5", "2+r5", "2-r5", "2 + 1r5", "2+1r5r5", "2+1r5+1r5", "1r5+2", "1r5-2", "1+2", "1+2/3", "1r5/1",
        "2r5/2", "(1r5)/2", "(1r5/2)", "(1r5)", "-1r5/-2", "1r5/0", "1+1r5/2", "(1+1r5/2", "1+1r5)/2", "(1+1r5)",
        "(1+1r5)/1", "(1+1r5)/-2", "(1+1r5)/0", "(1+1r5)/02", "(1+1r5)/", "(2+2r5)/2", "((1+1r5))/2", "(1+1r5)/2 ",
        "(1+1r5)/2)", "-(1+1r5)/2", "(1+1r5)/2\n", "(1+1r5)\n/2", "(+1+1r5)/2", "1R5", "one", "0x1", "3\n", "--3",
        "1/2r5", "(1/2)r5", "1r5/2r5", "\u0663", "\xb2", "\uff11", "1r\u0665", "\u22121",
    ]

    def test_texts_both_ways(self):
        for text, form in self.TEXTS:
            top, part, root, bottom = form
            self.assertEqual(str(Number(top, part, root=root, bottom=bottom)), text)
            self.assertEqual(form_of(Number.read(text)), form)

    def test_all_numbers_are_read_back(self):
        for root in (2, 13, 998):
            for number in some_numbers(root):
                self.assertEqual(Number.read(str(number)), number)

    def test_what_is_no_text_of_a_number(self):
        for text in self.NO_TEXTS:
            with self.subTest(text):
                self.assertEqual(self.refuses(ParseError, Number.read, text).index, 0)

    def test_all_short_strings(self):
        for letters in itertools.product("01+-r/()2", "01+-r/()2", "01+-r/()2", ("", "0", "2", "r")):
            text = "".join(letters)
            if is_short_text(text):
                self.assertEqual(str(Number.read(text)), text)
            else:
                self.refuses(ParseError, Number.read, text)

    def test_other_kinds(self):
        texts = [value for value in ALL_KINDS if isinstance(value, str) and value in ("0", "1", "-3", "1r5")]
        self.assertEqual(len(texts), 4)
        for value in all_but(texts):
            self.assertEqual(self.refuses(ParseError, Number.read, value).index, 0)

    def test_a_thousand_digits(self):
        most, more = "7" * 1000, "7" * 1001
        self.assertEqual(form_of(Number.read(most)), (int(most), 0, 0, 1))
        self.assertEqual(form_of(Number.read("-" + most)), (-int(most), 0, 0, 1))
        self.assertEqual(form_of(Number.read("1/" + most)), (1, 0, 0, int(most)))
        self.assertEqual(form_of(Number.read(f"1-{most}r2")), (1, -int(most), 2, 1))
        self.assertEqual(form_of(Number.read(f"({most}+1r2)/{most}")), (int(most), 1, 2, int(most)))
        for text in (more, "-" + more, "1/" + more, f"1-{more}r2", f"1+{more}r2", more + "r2", more + "+1r2",
                     f"({more}+1r2)/2", f"(2+1r2)/{more}", "1r" + more, "0" * 1001, "1" * 4000):
            self.assertEqual(self.refuses(ParseError, Number.read, text).index, 0)

    def test_texts_of_long_numbers(self):
        figures = str(HUGE)
        self.assertEqual(len(figures), 4000)
        self.assertEqual(str(Number(-HUGE)), "-" + figures)
        self.assertEqual(str(Number(HUGE, -HUGE, root=2, bottom=3)), f"({figures}-{figures}r2)/3")


class HaveOneRootTest(CallTest):

    def test_ordinary(self):
        self.assertIs(have_one_root(()), True)
        self.assertIs(have_one_root((Number(1),)), True)
        self.assertIs(have_one_root((GOLDEN, Number(4), GOLDEN.mirror)), True)
        self.assertIs(have_one_root((Number(4), Number(1, bottom=3))), True)
        self.assertIs(have_one_root((GOLDEN, ROOT)), False)
        self.assertIs(have_one_root((GOLDEN, Number(4), ROOT)), False)
        self.assertIs(have_one_root((Number(1), ROOT, ROOT, Number(0, 1, root=3))), False)
        self.assertIs(have_one_root((GOLDEN, ROOT - ROOT)), True)

    def test_wrong_arguments(self):
        for value in all_but([()]):
            if value != (Number(1),):
                self.refuses(InvalidNumber, have_one_root, value)
        for value in all_but([value for value in ALL_KINDS if isinstance(value, Number)]):
            self.refuses(InvalidNumber, have_one_root, (GOLDEN, value))
            self.refuses(InvalidNumber, have_one_root, (GOLDEN, ROOT, value))
        for value in ([GOLDEN], [], {"a": GOLDEN}, GOLDEN, (GOLDEN, (GOLDEN,)), (1, 2), HUNDRED, LISTS):
            self.refuses(InvalidNumber, have_one_root, value)

    def test_numbers_are_no_orders(self):
        self.assertIs(GOLDEN == Order(("a",), ("a",)), False)


if __name__ == "__main__":
    unittest.main()
