"""Stage 6: readings and parts, and what [0.15] says of them."""

import unittest

from pieceround.base.numbers import Number
from pieceround.base.orders import Order
from pieceround.errors import InvalidExchange, InvalidPoint, InvalidReading
from pieceround.piece.exchanges import Exchange
from pieceround.rounds import parts
from pieceround.rounds.parts import CyclePart, LoopPart, is_reading, part_at, parts_of, reading_of
from pieceround.rounds.rounds import columns, course_of, order_behind, rounded, rounded_by
from tests.models import (
    FOUR, GOLD, MIX, NAMED, ONES, OTHERS, half_of, is_in, points_of, random_exchanges, reversed_exchange,
    total_of, way, wrong_points,
)
from tests.samples import ALL_KINDS, EXCHANGES, NUMBERS, READINGS, CallTest

# The least lead and loop that have so many rounds.
LONG = Exchange.read("t q b m g l", "g l b m q t", "1", "2+2r5", "1r5", "1/2", "1+1r5", "1r5")
LONG_ROUNDS = 2105
GOLD_READING = (("loop", (), ("lower", "upper")),)


def rounds_in(reading):
    return sum(len(entry[1]) + (rounds_in(entry[2]) if entry[0] == "rounds" else len(entry[2]))
               for entry in reading if entry != ("cycle",))


def with_readings(exchanges, most=60):
    """The pairs of an exchange and its reading, where it has so few rounds."""
    made = []
    for exchange in exchanges:
        try:
            made.append((exchange, reading_of(exchange, most=most)))
        except OverflowError:
            pass
    return made


READ = with_readings(NAMED + OTHERS + random_exchanges(80, 6))


def block_exchanges(exchange):
    return [Exchange(block, {name: exchange.lengths[name] for name in block}) for block in exchange.order.blocks()]


def are_alike(one, other):
    """Whether two exchanges have equal orders and lengths that differ by one factor."""
    if one.order != other.order:
        return False
    first = one.order.above[0]
    return all(one.lengths[name] * other.lengths[first] == other.lengths[name] * one.lengths[first] for name in one)


def is_entry_by_definition(exchange, entry):
    """Whether the value is the entry of the exchange of a block, as [6.1] has it."""
    if len(exchange) == 1:
        return entry == ("cycle",)
    if entry[0] == "rounds":
        _, course, reading = entry
        return (course == course_of(exchange, len(course)) and course[-1] == "even" and "even" not in course[:-1]
                and is_by_definition(rounded_by(exchange, course), reading))
    word, lead, loop = entry
    course = lead + loop
    if word != "loop" or not loop or "even" in course or course != course_of(exchange, len(course)):
        return False
    states = [exchange]
    for _ in course:
        states.append(rounded(states[-1]))
    if not are_alike(states[len(lead)], states[-1]):
        return False
    return not any(are_alike(states[high], states[low]) for high in range(len(course)) for low in range(high))


def is_by_definition(exchange, reading):
    blocks = block_exchanges(exchange)
    return len(blocks) == len(reading) and all(map(is_entry_by_definition, blocks, reading))


def leaves_by_definition(exchange, reading, begin, met):
    """The list of (begin, exchange, columns, leaf) for the leaves of a reading, as [6.4] and [6.5] have them."""
    found = []
    for block, entry in zip(block_exchanges(exchange), reading):
        course = () if entry == ("cycle",) else entry[1]
        told = rounded_by(block, course)
        here = {}
        for name, column in columns(block.order, course).items():
            here[name] = {x: sum(column[other] * met[other][x] for other in column) for x in met[name]}
        if entry[0] == "rounds":
            found += leaves_by_definition(told, entry[2], begin, here)
        else:
            found.append((begin, told, here, entry))
        begin = begin + block.total
    return found


def leaves_of(exchange, reading):
    return leaves_by_definition(exchange, reading, Number(0), columns(exchange.order, ()))


class ReadingTest(CallTest):

    def test_constants(self):
        self.assertEqual(parts.MAX_ROUNDS, 4000)

    def test_readings(self):
        self.assertGreater(len(READ), 70)
        words = [entry[0] for _, reading in READ for entry in reading]
        self.assertTrue(all(words.count(word) > 8 for word in ("cycle", "rounds", "loop")), words)
        for one, reading in READ:
            self.assertTrue(is_by_definition(one, reading), str(one))
            self.assertIs(is_reading(one, reading), True)

    def test_lengths_without_a_root_have_no_loop(self):
        for lengths in ((1, 2, 3), (7, 4, 9, 2), (5, 5, 5, 5), (12, 7, 1, 30, 4)):
            one = reversed_exchange([Number(length, bottom=6) for length in lengths])
            for told in (one, one.scaled(Number(0, 1, root=3)), one.scaled(Number(2, 1, root=3))):
                self.assertNotIn("loop", str(reading_of(told)))
                self.assertEqual(reading_of(told), reading_of(one))
                self.assertTrue(all(not part.is_loop for part in parts_of(told, reading_of(told))))

    def test_factors_and_names(self):
        for one, reading in READ:
            numbers = [Number(7, bottom=3), Number(0, 1, root=one.root or 7), Number(5, -2, root=one.root or 2)]
            for number in numbers:
                if number.sign > 0:
                    self.assertEqual(reading_of(one.scaled(number)), reading)
            names = {name: "xyzuvw"[index] for index, name in enumerate(one.order.names)}
            order = one.order.renamed({name: names[name] for name in one})
            told = Exchange(order, {names[name]: one.lengths[name] for name in one})
            self.assertEqual(reading_of(told), reading)

    def test_winners_and_shares(self):
        for one, reading in READ:
            for _, told, _, leaf in leaves_of(one, reading):
                if leaf[0] == "loop":
                    winners, state = [], told
                    for kind in leaf[2]:
                        winners.append(state.order.above[-1] if kind == "upper" else state.order.below[-1])
                        state = rounded(state)
                    self.assertEqual(set(winners), set(told))
                    self.assertGreater(told.lengths[winners[0]].compared(state.lengths[winners[0]]), 0)

    def test_leads(self):
        one = Exchange.read("a b", "b a", "(7+1r3)/2", "1")
        told = reading_of(one)
        self.assertEqual(told, (("loop", ("lower",) * 3, ("lower", "upper", "upper")),))
        _, lead, loop = told[0]
        # What is as true of the course as of the reading, but is not the first return.
        for entry in (
            ("loop", lead + loop, loop), ("loop", lead, loop * 2), ("loop", lead + loop[:1], loop[1:] + loop[:1]),
            ("loop", lead[:-1], lead[-1:] + loop[:-1]), ("loop", (), lead + loop), ("loop", lead, loop[:-1]),
            ("loop", list(lead), loop), ("loop", lead, list(loop)), ["loop", lead, loop], ("loop", lead + loop, ()),
            ("rounds", lead, loop), ("rounds", lead + loop, told), ("loop", lead, loop, ()), ("loop", lead + loop),
            ("Loop", lead, loop), (True, lead, loop), ("cycle", lead, loop), ("cycle",),
        ):
            self.assertIs(is_reading(one, (entry,)), False, entry)
        for value in ((*told, *told), (), list(told), told[0], {"loop": told}):
            self.assertIs(is_reading(one, value), False)

    def test_most_rounds(self):
        for one, reading in READ:
            many = rounds_in(reading)
            if many > 1:
                self.assertEqual(reading_of(one, most=many), reading)
                self.refuses_many(many - 1, reading_of, one, most=many - 1)
                self.refuses_many(1, reading_of, one, most=1)
            else:
                self.assertEqual(reading_of(one, most=1), reading)

    def test_rounds_of_several_blocks_count_together(self):
        one = Exchange.read("a b c d", "b a d c", "1", "2", "2", "1")
        reading = reading_of(one, most=4)
        self.assertEqual([entry[1] for entry in reading], [("upper", "even"), ("lower", "even")])
        self.refuses_many(3, reading_of, one, most=3)
        self.refuses_many(2, reading_of, one, most=2)
        # No round is left when the last one is a cycle.
        one = Exchange.read("a b c", "b a c", "1", "2", "2")
        self.assertEqual(reading_of(one, most=2)[1], ("cycle",))

    def test_four_thousand_rounds(self):
        one, longer = (Exchange.read("a b", "b a", length, "1") for length in ("4000", "4001"))
        reading = reading_of(one, most=4000)
        self.assertEqual(reading, (("rounds", ("lower",) * 3999 + ("even",), (("cycle",),)),))
        self.assertIs(is_reading(one, reading), True)
        self.refuses_many(3999, reading_of, one, most=3999)
        self.refuses_many(1000, reading_of, one)
        self.refuses_many(4000, reading_of, longer, most=4000)
        # It would be the reading, but for its many rounds.
        self.assertIs(is_reading(longer, (("rounds", ("lower",) * 4000 + ("even",), (("cycle",),)),)), False)
        self.assertIs(is_reading(longer, reading), False)

    def test_long_reading(self):
        reading = reading_of(LONG, most=LONG_ROUNDS)
        self.assertEqual(rounds_in(reading), LONG_ROUNDS)
        self.refuses_many(LONG_ROUNDS - 1, reading_of, LONG, most=LONG_ROUNDS - 1)
        self.refuses_many(1000, reading_of, LONG)
        self.assertIs(is_reading(LONG, reading), True)
        part, = parts_of(LONG, reading)
        self.assertEqual(part.size, LONG.total)
        self.assertEqual(rounded_by(Exchange(part.order, part.lengths), part.loop).scaled(part.share).lengths,
                         part.lengths)

    def test_default_of_most(self):
        one, longer = (Exchange.read("a b", "b a", length, "1") for length in ("1000", "1001"))
        self.assertEqual(rounds_in(reading_of(one)), 1000)
        self.refuses_many(1000, reading_of, longer)

    def test_deep_readings(self):
        # Each even round is followed by a round of the one block that is left.
        one = reversed_exchange([Number(1)] * 40)
        reading = reading_of(one)
        self.assertIs(is_reading(one, reading), True)
        upper = "a b c d e f g h i j k l m n o p q r s t u v w x y z".split()
        deep = Exchange(Order(tuple(upper), tuple(upper[1:] + upper[:1])), {name: Number(1) for name in upper})
        reading, many = reading_of(deep), 0
        self.assertIs(is_reading(deep, reading), True)
        inner = reading
        while inner[0][0] == "rounds":
            inner, many = inner[0][2], many + 1
        self.assertEqual(many, 25)
        self.assertIs(is_reading(deep, (("rounds", ("even",), reading),)), False)
        for _ in range(60):
            reading = (("rounds", ("even",), reading),)
            self.assertIs(is_reading(deep, reading), False)

    def test_judging_takes_any_value(self):
        for one in (GOLD, ONES, Exchange.read("z", "z", "7/2"), MIX):
            told = reading_of(one)
            for value in ALL_KINDS:
                self.assertIs(is_reading(one, value), isinstance(value, tuple) and value == told)
                self.assertIs(is_reading(one, (value,)), isinstance(value, tuple) and (value,) == told)
                self.assertIs(is_reading(one, (("loop", (), value),)), False)
                self.assertIs(is_reading(one, (("loop", value, ("lower", "upper")),)), (("loop", value, (
                    "lower", "upper")),) == told)
                self.assertIs(is_reading(one, (("rounds", ("even",), value),)), False)
                self.assertIs(is_reading(one, (("loop", (), (value, "upper")),)), False)

    def test_wrong_arguments(self):
        self.refuses_all(InvalidExchange, reading_of, but=EXCHANGES)
        self.refuses_all(InvalidExchange, is_reading, but=EXCHANGES, behind=((),))
        for value in [*ALL_KINDS, 0, 4001, -1]:
            if not isinstance(value, int) or isinstance(value, bool) or not 1 <= value <= 4000:
                self.refuses_count(value, reading_of, GOLD, most=value)
                self.refuses(InvalidExchange, reading_of, None, most=value)


class PartsTest(CallTest):

    def test_parts_as_defined(self):
        for one, reading in READ:
            told, leaves = parts_of(one, reading), leaves_of(one, reading)
            self.assertEqual(len(told), len(leaves))
            for part, (begin, leaf, met, entry) in zip(told, leaves):
                periods = {name: sum(met[name].values()) for name in met}
                self.assertEqual(part.begin, begin)
                self.assertEqual(part.size, total_of(leaf.lengths[name] * periods[name] for name in leaf))
                self.assertIs(part.is_loop, entry[0] == "loop")
                if part.is_loop:
                    self.assertIs(part.__class__, LoopPart)
                    behind = rounded_by(leaf, entry[2])
                    self.assertEqual((part.order, part.lengths, part.loop), (leaf.order, leaf.lengths, entry[2]))
                    self.assertEqual(part.columns, met)
                    self.assertEqual(behind.scaled(part.share), leaf)
                    self.assertEqual((part.share.compared(1), part.share.norm), (1, Number(1)))
                else:
                    self.assertIs(part.__class__, CyclePart)
                    name, = leaf
                    self.assertEqual((part.length, part.counts, part.period), (leaf.total, met[name], periods[name]))
            self.assertEqual(total_of(part.size for part in told), one.total)

    def test_dicts_are_ascending(self):
        one = Exchange.read("c b a", "c a b", "2", "1+1r3", "1")
        cycle, loop = parts_of(one, reading_of(one))
        self.assertEqual((list(cycle.counts), list(loop.lengths), list(loop.columns)), (
            ["a", "b", "c"], ["a", "b"], ["a", "b"]))
        self.assertTrue(all(list(column) == ["a", "b", "c"] for column in loop.columns.values()))

    def test_cycles_come_back(self):
        for one, reading in READ:
            for part in parts_of(one, reading):
                if not part.is_loop:
                    for point in (part.begin, part.begin + half_of(part.length)):
                        points, names = way(one, point, part.period)
                        self.assertEqual(points.index(point, 1), part.period)
                        self.assertEqual({name: names.count(name) for name in one.order.names}, part.counts)

    def test_leaf_exchange_leads_to_the_next_point(self):
        for one, reading in READ:
            for begin, leaf, met, _ in leaves_of(one, reading):
                for name in leaf:
                    point = begin + leaf.begins[name] + half_of(leaf.lengths[name])
                    points, _ = way(one, point, sum(met[name].values()))
                    inside = [is_in(other, begin, begin + leaf.total) for other in points[1:]]
                    self.assertEqual(inside, [False] * (len(inside) - 1) + [True])
                    self.assertEqual(points[-1], begin + leaf(point - begin))

    def test_nothing_is_shared(self):
        loop, = parts_of(GOLD, GOLD_READING)
        loop.lengths["a"] = loop.columns["a"]["b"] = None
        loop.columns["b"] = None
        self.assertEqual(loop.lengths, GOLD.lengths)
        self.assertEqual(loop.columns, {"a": {"a": 1, "b": 0}, "b": {"a": 0, "b": 1}})
        cycle = parts_of(ONES, reading_of(ONES))[0]
        cycle.counts["a"] = 9
        self.assertEqual(cycle.counts, {"a": 1, "b": 0, "c": 1})

    def test_parts_never_change(self):
        loop, cycle = parts_of(GOLD, GOLD_READING)[0], parts_of(ONES, reading_of(ONES))[0]
        for part, names in ((loop, "begin size is_loop order lengths loop share columns"),
                            (cycle, "begin size is_loop length counts period")):
            for name in names.split():
                with self.assertRaises(AttributeError):
                    setattr(part, name, None)

    def test_equality(self):
        one = parts_of(GOLD, GOLD_READING)[0]
        self.assertTrue(one == parts_of(GOLD, GOLD_READING)[0])
        self.assertFalse(one != parts_of(GOLD, GOLD_READING)[0])
        scaled = GOLD.scaled(Number(2))
        self.assertTrue(one != parts_of(scaled, GOLD_READING)[0])
        first, second = parts_of(ONES, reading_of(ONES))
        self.assertTrue(first == parts_of(ONES, reading_of(ONES))[0])
        self.assertFalse(first == second)
        # In a piece of another exchange, with the same length and period.
        other, = parts_of(Exchange.read("b", "b", "1"), (("cycle",),))
        third, = parts_of(Exchange.read("a", "a", "1"), (("cycle",),))
        self.assertFalse(other == third)
        for value in ALL_KINDS:
            self.assertIs(one == value, value.__class__ is LoopPart)
            self.assertIs(third == value, value.__class__ is CyclePart)
        for part in (one, first):
            self.assertRaises(TypeError, iter, part)

    def test_named_parts(self):
        part, = parts_of(FOUR, reading_of(FOUR))
        self.assertEqual((str(part.share), len(part.loop), part.order), ("9+4r5", 16, FOUR.order))
        told = [(str(part.begin), str(part.size)) for part in parts_of(ONES, reading_of(ONES))]
        self.assertEqual(told, [("0", "2"), ("1", "1")])
        self.assertEqual(str(parts_of(GOLD, GOLD_READING)[0].share), "(3+1r5)/2")

    def test_wrong_arguments(self):
        for reading in (GOLD_READING, None):
            self.refuses_all(InvalidExchange, parts_of, but=EXCHANGES, behind=(reading,))
            self.refuses_all(InvalidExchange, part_at, but=EXCHANGES, behind=(reading, None))
        self.refuses_all(InvalidReading, parts_of, GOLD, but=READINGS)
        for point in (Number(0), None):
            self.refuses_all(InvalidReading, part_at, GOLD, but=READINGS, behind=(point,))
        self.refuses(InvalidReading, parts_of, GOLD, reading_of(ONES))
        self.refuses(InvalidReading, part_at, GOLD, reading_of(ONES), Number(9))
        self.refuses_all(InvalidPoint, part_at, GOLD, GOLD_READING, but=NUMBERS)
        for one, reading in READ:
            for point in wrong_points(one):
                self.refuses(InvalidPoint, part_at, one, reading, point)


class PartAtTest(CallTest):

    def test_points(self):
        for one, reading in READ:
            leaves = leaves_of(one, reading)
            for point in points_of(one):
                index, place, steps = part_at(one, reading, point)
                begin, leaf, _, _ = leaves[index]
                points, _ = way(one, point, steps)
                inside = [is_in(other, begin, begin + leaf.total) for other in points]
                self.assertEqual(inside, [False] * steps + [True])
                self.assertEqual(points[-1], place)

    def test_each_way_stays_in_one_part(self):
        for one, reading in READ:
            for point in points_of(one)[:6]:
                points, _ = way(one, point, 5)
                self.assertEqual(len({part_at(one, reading, other)[0] for other in points}), 1)

    def test_points_with_a_root_in_lengths_without(self):
        root = Number(0, 1, root=2)
        self.assertEqual(part_at(ONES, reading_of(ONES), root + 1), (0, root - 1, 1))
        self.assertEqual(part_at(ONES, reading_of(ONES), root), (1, root, 0))

    def test_many_steps(self):
        one = Exchange.read("a b", "b a", "3999", "1")
        reading = reading_of(one, most=4000)
        index, place, steps = part_at(one, reading, Number(3999))
        self.assertEqual((index, place, steps), (0, Number(0), 1))
        # The segment of the leaf is [0, 1), and each step leads one further.
        self.assertEqual(part_at(one, reading, Number(1)), (0, Number(0), 3999))

    def test_course_is_one_of_the_order(self):
        for one, reading in READ:
            for block, entry in zip(block_exchanges(one), reading):
                if entry[0] == "loop":
                    behind = order_behind(block.order, entry[1])
                    self.assertEqual(order_behind(behind, entry[2]), behind)


if __name__ == "__main__":
    unittest.main()
