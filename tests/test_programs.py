"""Stage 14: programs, and what [0.19] and [0.22] say of them."""

import itertools
import random
import unittest

from pieceround.base.numbers import Number
from pieceround.base.orders import Order
from pieceround.errors import InvalidLengths, InvalidOperation, InvalidProgram
from pieceround.piece.exchanges import Exchange, are_same, behind
from pieceround.walk import programs
from pieceround.walk.programs import Program, are_alike, cases_of, is_cases, laid, parted_by
from tests.models import is_in, names_with, points_of, step, total_of
from tests.samples import ALL_KINDS, PROGRAMS, SIXTY, SIXTY_ONE, CallTest

TURN, IDLE = Order.read("a b", "b a"), Order.read("a b", "a b")
TWICE, BACK, REST = Program((TURN, TURN)), Program((TURN, TURN.inverse())), Program((IDLE,))
RIGHT = (
    (("a", "a", "a"), None), (("a", "a", "b"), ((2, 0, 1),)), (("a", "b"), ((0, 1, 1),)), (("b", "a"), ((1, 0, 1),)),
    (("b", "b", "a"), ((0, 2, 1),)), (("b", "b", "b"), None),
)
SOURCE = random.Random(14)


def program(text):
    return Program(tuple(Order.read(*rows.split(" / ")) for rows in text.split(", ")))


# For three, four and five names as many least words as there can be within the bound, and the next number of them.
AT_BOUND = [(program(one), program(other)) for one, other in (
    ("b a c / c b a, a b c / c b a, b c a / a b c, c b a / a c b", "b c a / b c a, a c b / a b c, b a c / b a c"),
    ("c d b a / b c d a, c d a b / a d c b, b c a d / a d c b",
     "c d b a / b c d a, c d a b / a d c b, b c a d / a d c b"),
    ("c d b e a / a e c b d", "e b d c a / e a d c b, e b d a c / c a b d e, a c d b e / d c a b e"),
)]
BEYOND = [(program(one), program(other)) for one, other in (
    ("b c a / a c b, a b c / b c a, a c b / c a b, a b c / a c b",
     "b c a / a c b, a b c / b c a, a c b / c a b, a b c / a c b"),
    ("d a c b / a b d c, d c b a / d c b a, a c d b / c a d b, c b d a / a b c d", "c b a d / d c a b"),
    ("d a b e c / d b a c e, c d a e b / c d a e b, d a b c e / d a e b c",
     "d a b e c / d b a c e, c d a e b / c d a e b"),
)]


def random_order(many, source):
    return Order(tuple(source.sample(names_with(many), many)), tuple(source.sample(names_with(many), many)))


def random_pairs(many, seed):
    """Pairs of programs over the same names, alike ones often."""
    source, found = random.Random(seed), []
    while len(found) < many:
        names = source.choice((1, 2, 2, 3, 3, 3, 4, 5))
        first = [random_order(names, source) for _ in range(source.randint(1, 3))]
        second = [random_order(names, source) for _ in range(source.randint(1, 3))]
        way = source.randint(0, 4)
        if way == 1:
            second = list(first)
        elif way == 2 and len(first) < 3:
            second = first + [second[0], second[0].inverse()]
        elif way == 3 and len(first) < 3:
            first = first + [order.inverse() for order in first[::-1]]
            second = [Order(names_with(names), names_with(names))]
        found.append((Program(tuple(first)), Program(tuple(second))))
    return found


def led(one, lengths, point):
    """Where a program leads a point, with the names of the pieces that it meets."""
    names = []
    for order in one.orders:
        name, point = step(Exchange(order, lengths), point)
        names.append(name)
    return tuple(names), point


def small_words(one, other, most):
    """The words of points for all lengths that are integers up to this, with whether they are led to one place.

    The points have a distance of 1: words come for points that are integers, if these lengths are all.
    """
    for values in itertools.product(range(1, most + 1), repeat=len(one.names)):
        lengths = dict(zip(one.names, values))
        for point in range(sum(values)):
            first, second = led_quickly(one, lengths, point), led_quickly(other, lengths, point)
            yield first[0] + second[0], first[1] == second[1]


def led_quickly(one, lengths, point):
    """As led, for integers."""
    names = []
    for order in one.orders:
        for index, name in enumerate(order.above):
            begin = sum(lengths[ahead] for ahead in order.above[:index])
            if begin <= point < begin + lengths[name]:
                names.append(name)
                below = sum(lengths[ahead] for ahead in order.below[:order.below.index(name)])
                point += below - begin
                break
    return tuple(names), point


def sums_of(one, other, word):
    """For each letter of a word the factors of begin - moved and of end - moved; and both sums of shifts."""
    def ahead(row, name):
        return {part: int(row.index(part) < row.index(name)) for part in one.names}
    rows, moved = [], [dict.fromkeys(one.names, 0), dict.fromkeys(one.names, 0)]
    for place, (name, order) in enumerate(zip(word, one.orders + other.orders)):
        shifted = moved[place >= len(one)]
        above, below = ahead(order.above, name), ahead(order.below, name)
        low = {part: above[part] - shifted[part] for part in above}
        rows.append((low, {part: low[part] + int(part == name) for part in above}))
        for part in above:
            shifted[part] += below[part] - above[part]
    return rows, moved


def is_bar_by_definition(one, other, word, bar):
    rows, _ = sums_of(one, other, word)
    pairs = [row[:2] for row in bar]
    if not bar or pairs != sorted(set(pairs)) or min(row[2] for row in bar) < 1:
        return False
    return all(sum(weight * (rows[j][1][name] - rows[i][0][name]) for i, j, weight in bar) <= 0 for name in one.names)


PAIRS = random_pairs(120, 141)


class ProgramTest(CallTest):

    def test_constants(self):
        told = (programs.MAX_ORDERS, programs.MAX_PROGRAM_NAMES, programs.MAX_ROWS)
        self.assertEqual(told, (4, 5, 300))

    def test_members(self):
        orders = (Order.read("b a", "a b"), TURN)
        one = Program(orders)
        self.assertEqual((one.orders, one.names, len(one), str(one)), (orders, ("a", "b"), 2, "b a / a b, a b / b a"))
        self.assertEqual(one.inverse(), Program((TURN.inverse(), orders[0].inverse())))
        self.assertEqual(one.inverse().inverse(), one)

    def test_text(self):
        self.assertEqual(str(REST), "a b / a b")
        self.assertEqual(str(Program((TURN, IDLE))), "a b / b a, a b / a b")
        self.assertEqual(str(Program((Order.read("a", "a"),))), "a / a")
        self.assertEqual(str(Program((Order.read("a", "a"),) * 4)), "a / a, a / a, a / a, a / a")
        orders = (Order.read("e d c b a", "a b c d e"), Order.read("a b c d e", "b a d c e"),
                  Order.read("c a b e d", "d e b a c"), Order.read("a b c d e", "a b c d e"))
        for many in (1, 2, 3, 4):
            self.assertEqual(str(Program(orders[:many])), ", ".join(str(order) for order in orders[:many]))

    def test_equal(self):
        for value in ALL_KINDS:
            self.assertIs(TWICE == value, False)
            self.assertIs(TWICE != value, True)
        self.assertTrue(TWICE == Program((TURN, TURN)) and BACK == PROGRAMS[1] and not TWICE != Program((TURN, TURN)))
        self.assertFalse(TWICE == Program((TURN,)) or Program((TURN, IDLE)) == Program((IDLE, TURN)))

    def test_bounds(self):
        five = Order(names_with(5), names_with(5)[::-1])
        self.assertEqual(len(Program((five,) * 4)), 4)
        six = Order(names_with(6), names_with(6)[::-1])
        for orders in ((five,) * 5, (six,), (), (six, six)):
            self.refuses(InvalidProgram, Program, orders)

    def test_wrong_arguments(self):
        self.refuses_all(InvalidProgram, Program)
        for orders in ([TURN], TURN, (TURN, None), (TURN, Order.read("a c", "c a")), (TURN, Order.read("a", "a")),
                       (TURN, Exchange.read("a b", "b a", "1", "1")), (TURN, (TURN,)), (TWICE,), ("a b", "b a")):
            self.refuses(InvalidProgram, Program, orders)
        self.refuses(TypeError, iter, TWICE)


class LaidTest(CallTest):

    def test_points(self):
        for one, _ in PAIRS:
            lengths = {name: Number(1 + 3 * index % 5, bottom=1 + index % 2) for index, name in enumerate(one.names)}
            told = laid(one, lengths)
            for point in points_of(told):
                self.assertEqual(told(point), led(one, lengths, point)[1])

    def test_one_order_and_several(self):
        lengths = {"a": Number(1, 1, root=5), "b": Number(3)}
        order = Order.read("b a", "a b")
        self.assertEqual(laid(Program((order,)), lengths), Exchange(order, lengths))
        one = Exchange(order, lengths)
        self.assertEqual(laid(Program((order, TURN)), lengths), behind(one, Exchange(TURN, lengths)))
        told = behind(behind(one, Exchange(TURN, lengths)), one)
        self.assertEqual(laid(Program((order, TURN, order)), lengths), told)

    def test_inverse(self):
        for one, _ in PAIRS:
            lengths = {name: Number(1 + index, 1, root=2) for index, name in enumerate(one.names)}
            total = laid(one, lengths).total
            done = behind(laid(one, lengths), laid(one.inverse(), lengths))
            self.assertEqual(str(done), f"a / a: {total}")

    def test_wrong_arguments(self):
        right = {"a": Number(1), "b": Number(2)}
        for lengths in (right, None, {}):
            self.refuses_all(InvalidProgram, laid, but=PROGRAMS, behind=(lengths,))
        self.refuses_all(InvalidLengths, laid, TWICE)
        wrong = [{"a": Number(1)}, {**right, "c": Number(1)}, {"a": Number(1), "c": Number(1)}, {"a": 1, "b": 2},
                 {"a": Number(1), "b": Number(0)}, {"a": Number(1), "b": Number(-1)}, [("a", Number(1))],
                 {"a": Number(0, 1, root=2), "b": Number(0, 1, root=3)}, {"a": Number(1), "b": None}]
        for lengths in wrong:
            self.refuses(InvalidLengths, laid, BACK, lengths)


class AlikeTest(CallTest):

    def test_alike_or_parted(self):
        found = []
        for one, other in PAIRS:
            try:
                is_alike = are_alike(one, other)
            except OverflowError:
                self.refuses_many(300, parted_by, one, other)
                continue
            found.append(is_alike)
            parted = parted_by(one, other)
            self.assertEqual(parted is None, is_alike)
            if is_alike:
                for root in (0, 2):
                    lengths = {name: Number(1 + index * 7 % 4, int(root > 0), root=root)
                               for index, name in enumerate(one.names)}
                    self.assertTrue(are_same(laid(one, lengths), laid(other, lengths)))
            else:
                lengths, point = parted
                self.assertEqual((list(lengths), isinstance(parted, tuple)), (list(one.names), True))
                self.assertNotEqual(laid(one, lengths)(point), laid(other, lengths)(point))
                self.assertNotEqual(led(one, lengths, point)[1], led(other, lengths, point)[1])
        self.assertGreater(found.count(True), 30)
        self.assertGreater(found.count(False), 30)

    def test_what_small_lengths_part(self):
        # Programs that small lengths part are not alike.
        for one, other in random_pairs(60, 142):
            if len(one.names) > 3 or len(one) + len(other) > 5:
                continue
            is_alike = all(is_same for _, is_same in small_words(one, other, 4))
            self.assertIs(are_alike(one, other), is_alike)

    def test_alike_for_some_lengths(self):
        # What brings each point back for equal lengths does not for all.
        for length in (1, 5):
            lengths = {"a": Number(length), "b": Number(length)}
            self.assertTrue(are_same(laid(TWICE, lengths), laid(REST, lengths)))
        self.assertIs(are_alike(TWICE, REST), False)
        self.assertIs(are_alike(BACK, REST), True)
        # The lengths that part them are not those for which they are alike.
        for one, other in ((TWICE, REST), (REST, TWICE), (Program((TURN,) * 4), REST), (Program((TURN,) * 4), TWICE)):
            lengths, point = parted_by(one, other)
            self.assertNotEqual(led(one, lengths, point)[1], led(other, lengths, point)[1])
            self.assertTrue(is_in(point, Number(0), total_of(lengths.values())))
            self.assertTrue(all(length.sign > 0 for length in lengths.values()))

    def test_orders_ahead_and_behind(self):
        for one, other in PAIRS:
            if len(one) + len(other) <= 4 and len(one.names) < 4 and are_alike(one, other):
                more = random_order(len(one.names), SOURCE)
                ahead = Program((more, *one.orders)), Program((more, *other.orders))
                after = Program((*one.orders, more)), Program((*other.orders, more))
                self.assertIs(are_alike(*ahead) and are_alike(*after), True)
                back = Program((*one.orders, *one.inverse().orders))
                idle = Program((Order(one.names, one.names),))
                self.assertIs(are_alike(back, idle), True)

    def test_one_name(self):
        single = Program((Order.read("z", "z"),) * 4)
        self.assertIs(are_alike(single, Program(single.orders[:1])), True)
        self.assertEqual(cases_of(single, single), ((("z",) * 8, None),))

    def test_bounds(self):
        for one, other in AT_BOUND:
            is_alike = are_alike(one, other)
            self.assertEqual((parted_by(one, other) is None, cases_of(one, other) is not None), (is_alike, is_alike))
        self.assertEqual(len(cases_of(*AT_BOUND[1])), 298)
        for one, other in BEYOND:
            for call in (are_alike, parted_by, cases_of):
                self.refuses_many(300, call, one, other)
            self.assertIs(is_cases(one, other, None), False)
            self.assertIs(is_cases(one, other, ()), False)

    def test_wrong_arguments(self):
        three = Program((Order.read("a b c", "c b a"),))
        for call, rest in ((are_alike, ()), (parted_by, ()), (cases_of, ()), (is_cases, (None,)), (is_cases, (RIGHT,))):
            for other in (REST, three, None):
                self.refuses_all(InvalidProgram, call, but=PROGRAMS, behind=(other, *rest))
            self.refuses_all(InvalidProgram, call, BACK, but=PROGRAMS, behind=rest)
            self.refuses_all(InvalidProgram, call, three, but=PROGRAMS, behind=rest)
            self.refuses(InvalidOperation, call, BACK, three, *rest)
            self.refuses(InvalidOperation, call, three, BACK, *rest)
            self.refuses(InvalidOperation, call, *[Program(pair[0].orders) for pair in BEYOND[:2]], *rest)


class CasesTest(CallTest):

    def test_papers(self):
        found = 0
        for one, other in PAIRS:
            try:
                paper = cases_of(one, other)
            except OverflowError:
                continue
            self.assertEqual(paper is not None, are_alike(one, other))
            if paper is None:
                continue
            found += 1
            self.assertIs(is_cases(one, other, paper), True)
            words = [word for word, _ in paper]
            self.assertEqual(words, sorted(words))
            for word, bar in paper:
                if bar is None:
                    _, moved = sums_of(one, other, word)
                    self.assertEqual((moved[0], len(word)), (moved[1], len(one) + len(other)))
                else:
                    self.assertTrue(is_bar_by_definition(one, other, word, bar))
            # One row less, and one more.
            for index in sorted({0, 1, len(paper) // 3, len(paper) // 2, len(paper) - 1} & set(range(len(paper)))):
                self.assertIs(is_cases(one, other, paper[:index] + paper[index + 1:]), False)
                self.assertIs(is_cases(one, other, paper[:index] + paper[index:index + 1] + paper[index:]), False)
        self.assertGreater(found, 30)

    def test_least_words(self):
        # The words that come for small lengths are the full ones; others have one letter more than one that comes.
        for one, other in PAIRS:
            if len(one.names) > 3 or len(one) + len(other) > 4 or not are_alike(one, other):
                continue
            come = {word for word, _ in small_words(one, other, 6)}
            begun = {word[:many] for word in come for many in range(len(word) + 1)}
            barred = {(*word, name) for word in begun - come for name in one.names} - begun
            told = [(word, bar is None) for word, bar in cases_of(one, other)]
            self.assertEqual(told, sorted([(word, True) for word in come] + [(word, False) for word in barred]))

    def test_other_papers(self):
        self.assertIs(is_cases(BACK, REST, RIGHT), True)
        # Words can be longer than they need be, with the bar of a shorter one, and bars can be others.
        longer = RIGHT[:2] + ((("a", "b", "a"), ((0, 1, 1),)), (("a", "b", "b"), ((0, 1, 1),))) + RIGHT[3:]
        self.assertIs(is_cases(BACK, REST, longer), True)
        self.assertIs(is_cases(BACK, REST, longer[:2] + longer[3:]), False)
        self.assertIs(is_cases(BACK, REST, longer[:3] + RIGHT[2:3] + longer[3:]), False)
        self.assertIs(is_cases(BACK, REST, RIGHT[:3] + longer[2:3] + RIGHT[3:]), False)
        # A full word that agrees can have its bar or not.
        same = Program((TURN,)), Program((TURN,))
        paper = cases_of(*same)
        self.assertEqual([(word, bar is None) for word, bar in paper],
                         [(("a", "a"), True), (("a", "b"), False), (("b", "a"), False), (("b", "b"), True)])
        self.assertIs(is_cases(*same, tuple((word, None) for word, _ in paper)), False)
        idle = Program((IDLE,)), Program((IDLE,))
        self.assertIs(is_cases(*idle, tuple((word, None) for word, _ in cases_of(*idle))), True)
        self.assertIs(is_cases(*idle, ((("a",), None), (("b",), None))), False)
        # A word that begins with another one cannot stand for one that is missing.
        begun = (("a", "b", "a"), ((0, 1, 1),))
        self.assertIs(is_cases(BACK, REST, (*RIGHT[:3], begun, *RIGHT[3:5])), False)
        self.assertIs(is_cases(BACK, REST, (begun, *RIGHT)), False)
        # Programs that are not alike have no paper.
        for value in (RIGHT, cases_of(BACK, REST), ()):
            self.assertIs(is_cases(TWICE, REST, value), False)

    def test_weights(self):
        for weight, is_right in ((1, True), (SIXTY, True), (SIXTY_ONE, False), (0, False), (-1, False), (True, False)):
            value = RIGHT[:2] + ((("a", "b"), ((0, 1, weight),)),) + RIGHT[3:]
            self.assertIs(is_cases(BACK, REST, value), is_right)

    def test_wrong_rows(self):
        def with_row(row):
            return RIGHT[:2] + (row,) + RIGHT[3:]
        wrong = [
            (("a", "b"), ((1, 0, 1),)), (("a", "b"), None), (("a", "b"), ()), (("a", "b"), ((0, 1, 1), (0, 1, 1))),
            (("a", "b"), ((0, 1, 1), (0, 1, 2))), (("a", "b"), [(0, 1, 1)]), (("a", "b"), ([0, 1, 1],)),
            (("a", "b"), ((0, 1),)), (("a", "b"), ((0, 1, 1, 1),)), (("a", "b"), ((0, True, 1),)),
            (("a", "b"), ((False, 1, 1),)), (("a", "b"), ((0, 2, 1),)), (("a", "b"), ((-2, 1, 1),)),
            (("a", "b"), ((0, -1, 1),)), (("a", "b"), ((0, 1, "1"),)), (("a", "b"), (None,)), (("a", "b"), ("abc",)),
            (["a", "b"], ((0, 1, 1),)), (("a", "b"), ((0, 1, 1),), None), ((("a", "b"), ((0, 1, 1),)),),
            [("a", "b"), ((0, 1, 1),)], ((), ((0, 1, 1),)), (("a", "c"), ((0, 1, 1),)), (("a", 1), ((0, 1, 1),)),
            (("a", "b", "a", "a"), ((0, 1, 1),)), ("ab", ((0, 1, 1),)), None, (), ("a", "b"),
        ]
        for row in wrong:
            self.assertIs(is_cases(BACK, REST, with_row(row)), False, row)
        self.assertIs(is_cases(BACK, REST, RIGHT[::-1]), False)
        self.assertIs(is_cases(BACK, REST, list(RIGHT)), False)
        self.assertIs(is_cases(BACK, REST, RIGHT[:5]), False)
        self.assertIs(is_cases(BACK, REST, ((("a", "a", "b"), None), *RIGHT[1:])), False)
        for value in ALL_KINDS:
            self.assertIs(is_cases(BACK, REST, value), False)
            self.assertIs(is_cases(BACK, REST, with_row(value)), False)
            self.assertIs(is_cases(BACK, REST, with_row((("a", "b"), value))), False)
            self.assertIs(is_cases(BACK, REST, with_row((value, ((0, 1, 1),)))), value == ("a", "b"))


if __name__ == "__main__":
    unittest.main()
