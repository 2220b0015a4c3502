"""Stage 15: surfaces, and what [0.20] and [0.22] say of marks."""

import fractions
import itertools
import random
import time
import unittest

from pieceround.base.orders import Order, count_orders, each_order
from pieceround.errors import InvalidOrder
from pieceround.glue.surfaces import (
    angles, are_marked_alike, corner_walk, corners, form_rank, frame_of, genus, is_frame, left_angle, marks, parity,
)
from pieceround.rounds.rounds import order_behind
from pieceround.walk.walks import are_joined, class_of, moved, walk_between
from tests.models import FOUR, GOLD, MIX, names_with
from tests.samples import ALL_KINDS, ORDERS, CallTest

CALLS = (corner_walk, corners, angles, left_angle, genus, form_rank, parity, frame_of, marks)
SOURCE = random.Random(15)


def random_order(many):
    return Order(tuple(SOURCE.sample(names_with(many), many)), tuple(SOURCE.sample(names_with(many), many)))


def all_orders(many):
    return [Order(names_with(many), lower) for lower in itertools.permutations(names_with(many))]


SMALL = [order for many in (1, 2, 3, 4) for order in all_orders(many)] + [random_order(7) for _ in range(30)]
LARGE = [random_order(many) for many in (8, 9, 17, 39, 40, 40)] + [Order(names_with(40), names_with(40)[::-1])]


def crossing(order, one, other):
    return order.form(one, other) != 0


def size_of(order, names):
    return len(names) + sum(crossing(order, *pair) for pair in itertools.combinations(names, 2))


def sets_of(order):
    for many in range(len(order) + 1):
        yield from itertools.combinations(sorted(order), many)


def rank_of(rows):
    """The rank of a matrix of integers, by elimination over the fractions."""
    rows, rank = [[fractions.Fraction(value) for value in row] for row in rows], 0
    for column in range(len(rows)):
        found = [row for row in rows[rank:] if row[column] != 0]
        if found:
            rows.remove(found[0])
            rows.insert(rank, found[0])
            for index in range(rank + 1, len(rows)):
                factor = rows[index][column] / found[0][column]
                rows[index] = [value - factor * other for value, other in zip(rows[index], found[0])]
            rank += 1
    return rank


def is_frame_by_definition(order, value):
    """Whether pairs and a rest of right sets are a frame."""
    pairs, rest = value
    sets = [one for pair in pairs for one in pair] + list(rest)
    mates = {(2 * index, 2 * index + 1) for index in range(len(pairs))}
    if len(sets) != len(order):
        return False
    for (index, one), (other, mate) in itertools.combinations(enumerate(sets), 2):
        meeting = sum(crossing(order, a, b) for a in one for b in mate)
        if meeting % 2 != ((index, other) in mates):
            return False
    for many in range(1, len(sets) + 1):
        for rows in itertools.combinations(sets, many):
            if all(sum(name in row for row in rows) % 2 == 0 for name in order):
                return False
    return True


class CornerTest(CallTest):

    def test_walks(self):
        for order in SMALL + LARGE:
            number = {name: index + 1 for index, name in enumerate(order.above)}
            told = [number[order.below[0]] - 1]
            for name in order.above:
                place = order.below.index(name)
                told.append(len(order) if place == len(order) - 1 else number[order.below[place + 1]] - 1)
            self.assertEqual(corner_walk(order), tuple(told))
            # Each end is led to by just one end.
            self.assertEqual(sorted(told), list(range(len(order) + 1)))

    def test_corners(self):
        for order in SMALL + LARGE:
            walk, found = corner_walk(order), corners(order)
            for corner in found:
                self.assertEqual(corner[0], min(corner))
                self.assertEqual(tuple(walk[end] for end in corner), corner[1:] + corner[:1])
            self.assertEqual(sorted(end for corner in found for end in corner), list(range(len(order) + 1)))
            self.assertEqual(found, tuple(sorted(found)))
            told = [sum(1 <= end <= len(order) - 1 for end in corner) for corner in found]
            self.assertEqual((angles(order), left_angle(order)), (tuple(sorted(told)), told[0]))
            self.assertEqual(sum(told), len(order) - 1)

    def test_needless_pairs(self):
        for order in SMALL + LARGE:
            single = [corner[0] for corner in corners(order) if len(corner) == 1 and 1 <= corner[0] < len(order)]
            pairs = [(order.above[end - 1], order.above[end]) for end in single]
            self.assertEqual(tuple(pairs), order.needless)
        self.assertEqual(corners(Order.read("a b c", "c a b")), ((0, 2, 3), (1,)))
        self.assertEqual(corners(Order.read("a", "a")), ((0,), (1,)))

    def test_genus_and_rank(self):
        for order in SMALL + LARGE:
            self.assertEqual(len(order), 2 * genus(order) + len(corners(order)) - 1)
            matrix = [[order.form(one, other) for other in order] for one in order]
            self.assertEqual((form_rank(order), rank_of(matrix)), (2 * genus(order),) * 2)


class ParityTest(CallTest):

    def test_sizes_of_all_sets(self):
        for order in SMALL:
            even = [size_of(order, names) % 2 == 0 for names in sets_of(order)]
            more = even.count(True) - even.count(False)
            self.assertEqual(parity(order), (more > 0) - (more < 0))
            self.assertIs(type(parity(order)), int)

    def test_even_angles(self):
        for order in SMALL + LARGE:
            self.assertIs(parity(order) == 0, any(angle % 2 == 0 for angle in angles(order)))

    def test_forty_names_end_soon(self):
        start = time.monotonic()
        found = {parity(order) for order in [random_order(40) for _ in range(60)]}
        self.assertLess(time.monotonic() - start, 5)
        self.assertLessEqual(found, {-1, 0, 1})
        # With forty names, all of which cross, there are 41 ends in one corner, with the angle 39.
        self.assertEqual((marks(LARGE[-1])[:2], genus(LARGE[-1])), (((39,), 39), 20))
        self.assertEqual(parity(LARGE[-1]), sum_of_sizes(40))

    def test_frames_tell_it(self):
        for order in SMALL + LARGE:
            pairs, rest = frame_of(order)
            odd = sum(size_of(order, one) % 2 == 1 and size_of(order, other) % 2 == 1 for one, other in pairs)
            told = 0 if any(size_of(order, names) % 2 == 1 for names in rest) else (-1) ** odd
            self.assertEqual((parity(order), len(pairs)), (told, genus(order)))


def sum_of_sizes(many):
    """1 or -1 or 0 for the sets of so many names that all cross: a set of k names has the size k + k (k - 1) / 2."""
    total, sets = 0, 1
    for size in range(many + 1):
        total += sets * (-1) ** (size + size * (size - 1) // 2)
        sets = sets * (many - size) // (size + 1)
    return (total > 0) - (total < 0)


class FrameTest(CallTest):

    def test_any_frame(self):
        for order in SMALL + LARGE:
            value = frame_of(order)
            self.assertIs(is_frame(order, value), True)
            if len(order) <= 7:
                self.assertTrue(is_frame_by_definition(order, value))
            for names in [names for pair in value[0] for names in pair] + list(value[1]):
                self.assertEqual((names != (), names), (True, tuple(sorted(set(names) & set(order)))))

    def test_frames_made_of_others(self):
        found = 0
        for order in SMALL:
            pairs, rest = frame_of(order)
            rows = [pair[::-1] for pair in pairs]
            self.assertIs(is_frame(order, (tuple(rows), rest)), True)
            self.assertIs(is_frame(order, (tuple(rows[::-1]), rest[::-1])), True)
            if pairs and rest:
                # A set of the rest can be added to one of a pair, and not the other way round.
                more = tuple(sorted(set(pairs[0][0]) ^ set(rest[0])))
                self.assertIs(is_frame(order, (((more, pairs[0][1]), *pairs[1:]), rest)), True)
                self.assertIs(is_frame(order, (pairs, (more, *rest[1:]))), False)
                found += 1
            if len(pairs) > 1:
                more = tuple(sorted(set(pairs[0][0]) ^ set(pairs[1][0])))
                other = tuple(sorted(set(pairs[0][1]) ^ set(pairs[1][1])))
                self.assertIs(is_frame(order, (((more, pairs[0][1]), (pairs[1][0], other), *pairs[2:]), rest)), True)
                self.assertIs(is_frame(order, (((more, pairs[0][1]), *pairs[1:]), rest)), False)
        self.assertGreater(found, 10)

    def test_all_values_of_small_orders(self):
        for order in all_orders(2) + all_orders(3)[::2]:
            sets = [names for names in sets_of(order) if names]
            for rows in itertools.product(sets, repeat=len(order)):
                for many in range(len(order) // 2 + 1):
                    pairs = tuple((rows[2 * index], rows[2 * index + 1]) for index in range(many))
                    value = (pairs, rows[2 * many:])
                    self.assertIs(is_frame(order, value), is_frame_by_definition(order, value))

    def test_wrong_values(self):
        order = MIX.order
        right = (((("a",), ("b",)),), (("a", "b", "c"),))
        self.assertIs(is_frame(order, right), True)
        wrong = [
            (((("a",), ("b",)),), (("c",),)), (((("a",), ("b",)),), ()), (((("a",), ("b",)),), (("a", "b", "c"),) * 2),
            (((("a",), ("b",)),), (("c", "b", "a"),)), (((("a",), ("b",)),), (("a", "b", "b", "c"),)),
            (((("a",), ("b",)),), ((),)), (((("a",), ("b",)),), (["a", "b", "c"],)), ([(("a",), ("b",))], right[1]),
            (((("a",), ("b",)),), [("a", "b", "c")]), (([("a",), ("b",)],), right[1]),
            (((("a",), ("b",), ("c",)),), ()),
            (((("a",), ("d",)),), right[1]), (((("a",), (1,)),), right[1]), ((("a", "b"),), right[1]),
            (right[0],), (*right, ()), list(right), ((), (("a",), ("b",), ("a", "b", "c"))), (right[0], "abc"),
            (((("a",), ("a",)),), right[1]), (((("a",), ("b",)), (("a",), ("b",))), right[1]),
            (right[0] + ((),), right[1]), (((("a",), ("a", "a")),), right[1]), (((("a",), ("b",)),), (("a", "c", "b"),)),
            (((("a",), ("b",)),), (("b", "a", "c"),)), (((("a",), ("b",)),), (("a", "b", "a", "a", "a"),)),
        ]
        for value in wrong:
            self.assertIs(is_frame(order, value), False, value)
        for value in ALL_KINDS:
            self.assertIs(is_frame(order, value), False)
            self.assertIs(is_frame(order, (right[0], value)), False)
            self.assertIs(is_frame(order, (value, right[1])), False)
            self.assertIs(is_frame(order, ((value,), right[1])), False)
            self.assertIs(is_frame(order, (right[0], (value,))), False)
        self.assertIs(is_frame(Order.read("a", "a"), ((), (("a",),))), True)
        self.assertIs(is_frame(GOLD.order, (((("a",), ("a", "a")),), ())), False)


class MarksTest(CallTest):

    def test_only_places_count(self):
        for order in SMALL + LARGE:
            names = dict(zip(order.above, names_with(40)))
            other = order.renamed(names)
            for call in (corner_walk, corners, angles, left_angle, genus, form_rank, parity, marks):
                self.assertEqual(call(order), call(other))
            self.assertIs(are_marked_alike(order, other), True)

    def test_rounds_keep_marks(self):
        for order in SMALL + LARGE:
            if order.is_whole:
                for course in (("upper",), ("lower",), ("upper", "lower", "lower", "upper", "upper")):
                    behind = order_behind(order, course)
                    self.assertEqual((marks(behind), form_rank(behind)), (marks(order), form_rank(order)))
                    self.assertIs(are_marked_alike(order, behind), True)

    def test_inverse_and_backwards(self):
        other_left = 0
        for order in SMALL + LARGE:
            if order.is_whole:
                self.assertEqual(marks(order.inverse()), marks(order))
                turned = order.backwards()
                self.assertEqual((angles(turned), parity(turned)), (angles(order), parity(order)))
                other_left += left_angle(turned) != left_angle(order)
        self.assertGreater(other_left, 0)

    def test_joined_orders_up_to_seven_names(self):
        for many in range(2, 8):
            left, found = {order.places: order for order in each_order(many)}, {}
            self.assertEqual(len(left), count_orders(many))
            while left:
                order = next(iter(left.values()))
                told = marks(order)
                self.assertNotIn(told, found)
                found[told] = order
                for places in class_of(order):
                    self.assertEqual(marks(left.pop(places)), told)
            for one, other in itertools.combinations(found.values(), 2):
                self.assertEqual((are_joined(one, other), are_marked_alike(one, other)), (False, False))

    def test_equal_angles_and_no_walk(self):
        # With equally many names and equal angles, but another left angle or another parity.
        told = [(order, marks(order)) for order in each_order(6)]
        found = [(one, other) for (one, first), (other, second) in itertools.combinations(told, 2)
                 if first[0] == second[0] and first != second][::500]
        self.assertGreater(len(found), 5)
        for one, other in found:
            self.assertIsNone(walk_between(one, other))

    def test_eight_names_with_equal_marks_that_are_not_joined(self):
        order = Order(names_with(8), names_with(8)[::-1])
        known, row = {order.places: True}, [order.places]
        while row:
            row = [moved(places, kind) for places in row for kind in ("upper", "lower")]
            row = [places for places in dict.fromkeys(row) if places not in known]
            known.update(dict.fromkeys(row, True))
        self.assertEqual(len(known), 2 ** 7 - 1)
        others = [random_order(8) for _ in range(3000)]
        found = [other for other in others if other.is_whole and other.places not in known
                 and marks(other) == marks(order)]
        self.assertGreater(len(found), 0)
        self.assertIs(are_marked_alike(order, found[0]), True)

    def test_other_numbers_of_names(self):
        # The angles tell how many names there are.
        for one, other in itertools.product(SMALL[:30], repeat=2):
            self.assertIs(are_marked_alike(one, other), len(one) == len(other) and marks(one) == marks(other))
        self.assertIs(are_marked_alike(GOLD.order, MIX.order), False)
        self.assertIs(are_marked_alike(FOUR.order, FOUR.order.inverse()), True)

    def test_marks(self):
        for order in SMALL + LARGE:
            self.assertEqual(marks(order), (angles(order), left_angle(order), parity(order)))

    def test_wrong_arguments(self):
        for call in CALLS:
            self.refuses_all(InvalidOrder, call, but=ORDERS)
        self.refuses_all(InvalidOrder, is_frame, but=ORDERS, behind=(None,))
        self.refuses_all(InvalidOrder, is_frame, but=ORDERS, behind=(((), (("a",),)),))
        for other in (*ORDERS, None):
            self.refuses_all(InvalidOrder, are_marked_alike, but=ORDERS, behind=(other,))
        self.refuses_all(InvalidOrder, are_marked_alike, ORDERS[0], but=ORDERS)


if __name__ == "__main__":
    unittest.main()
