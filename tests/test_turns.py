"""Stage 11: what follows traces and leads them, what comes back, what is read both ways."""

import itertools
import unittest

from pieceround.base.numbers import Number
from pieceround.base.orders import Order
from pieceround.errors import InvalidExchange, InvalidOperation, InvalidOrder, InvalidTrace
from pieceround.piece.exchanges import Exchange
from pieceround.rounds.parts import reading_of
from pieceround.trace import turns
from pieceround.trace.traces import stretch_of, trace, traces
from pieceround.trace.turns import branchings, is_reversed, palindromes, return_traces, traces_graph
from pieceround.way.returns import returns_to
from tests.models import FOUR, GOLD, MIX, NAMED, ONES, OTHERS, random_exchanges, reversed_exchange, total_of
from tests.samples import ALL_KINDS, EXCHANGES, ORDERS, CallTest

START = Number(0)
ALL = NAMED + OTHERS + random_exchanges(25, 13)


def is_through(exchange):
    try:
        reading = reading_of(exchange, most=200)
    except OverflowError:
        return False
    return len(reading) == 1 and reading[0][0] == "loop"


THROUGH = [one for one in ALL + random_exchanges(60, 14) if is_through(one)]


def following(exchange, many):
    """The dict from the traces, in their order, to the names that follow them."""
    longer = dict.fromkeys(traces_unbound(exchange, many + 1))
    return {names: tuple(name for name in exchange if (*names, name) in longer) for names in traces(exchange, many)}


def leading(exchange, many):
    longer = dict.fromkeys(traces_unbound(exchange, many + 1))
    return {names: tuple(name for name in exchange if (name, *names) in longer) for names in traces(exchange, many)}


def traces_unbound(exchange, many):
    """The traces of one letter more than those that are listed, too."""
    if many <= 40:
        return traces(exchange, many)
    shorter = traces(exchange, 40)
    return [(*names, name) for names in shorter for name in exchange if stretch_of(exchange, (*names, name))]


class FollowTest(CallTest):

    def test_constants(self):
        self.assertEqual((turns.MAX_LETTERS, turns.MAX_RETURN), (40, 4000))

    def test_branchings(self):
        for one in ALL:
            for many in (1, 2, 3, 6):
                told = following(one, many)
                self.assertEqual(branchings(one, many), tuple(pair for pair in told.items() if len(pair[1]) > 1))
                self.assertEqual(branchings(one, many, ahead=False), branchings(one, many))
                self.assertTrue(all(told.values()))
                more = sum(len(names) - 1 for names in told.values())
                self.assertEqual(len(traces(one, many + 1)), len(traces(one, many)) + more)
                told = leading(one, many)
                found = branchings(one, many, ahead=True)
                self.assertEqual(found, tuple(pair for pair in told.items() if len(pair[1]) > 1))
                self.assertEqual(sum(len(names) - 1 for names in told.values()), more)

    def test_order_of_the_names(self):
        # The names are told in the order of the upper row, and the traces from the left to the right.
        one = Exchange.read("c a b", "b c a", "2", "1+1r3", "1")
        for many in (1, 2, 3):
            self.assertEqual(branchings(one, many), tuple(
                pair for pair in following(one, many).items() if len(pair[1]) > 1))
        self.assertTrue(any(names != tuple(sorted(names)) for many in range(1, 9)
                            for _, names in branchings(one, many) + branchings(one, many, ahead=True)))

    def test_forty_letters(self):
        for one in (GOLD, FOUR, ONES):
            self.assertEqual(branchings(one, 40), tuple(
                pair for pair in following(one, 40).items() if len(pair[1]) > 1))
            self.assertEqual(len(traces_graph(one, 40)), len(traces(one, 40)))

    def test_graph(self):
        for one in ALL:
            for many in (1, 2, 4):
                told, found = following(one, many), traces_graph(one, many)
                self.assertEqual(list(found), sorted(told))
                for names, others in found.items():
                    self.assertEqual(others, tuple((*names[1:], name) for name in told[names]))

    def test_points_along_the_graph(self):
        for one in ALL:
            found = traces_graph(one, 3)
            for names in found:
                begin, end = stretch_of(one, names)
                met = set()
                for longer in traces(one, 4):
                    if longer[:3] == names:
                        point = stretch_of(one, longer)[0]
                        self.assertGreaterEqual(point.compared(begin), 0)
                        self.assertLess(point.compared(end), 0)
                        met.add(trace(one, one(point), 3))
                self.assertEqual(met, set(found[names]))

    def test_through(self):
        self.assertGreater(len(THROUGH), 20)
        for one in THROUGH:
            for many in (1, 2, 5):
                for ahead in (False, True):
                    found = branchings(one, many, ahead=ahead)
                    self.assertEqual(sum(len(names) - 1 for _, names in found), len(one) - 1)
                graph = traces_graph(one, many)
                for names in graph:
                    reached, left = {names}, [names]
                    while left:
                        for other in graph[left.pop()]:
                            if other not in reached:
                                reached.add(other)
                                left.append(other)
                    self.assertEqual(len(reached), len(graph))

    def test_wrong_arguments(self):
        for call in (branchings, traces_graph, palindromes):
            self.refuses_all(InvalidExchange, call, but=EXCHANGES, behind=(1,))
            self.refuses_all(InvalidExchange, call, but=EXCHANGES, behind=(0,))
            self.refuses_counts(1, 40, call, GOLD)
        for value in ALL_KINDS:
            if value is not True and value is not False:
                self.refuses(InvalidOperation, branchings, GOLD, 1, ahead=value)
                self.refuses_count(41, branchings, GOLD, 41, ahead=value)
                self.refuses(InvalidExchange, branchings, None, 41, ahead=value)


class ReturnTest(CallTest):

    def test_return_traces(self):
        for one in ALL:
            for many in (1, 2, 4):
                for names in traces(one, many):
                    begin, end = stretch_of(one, names)
                    told, times = returns_to(one, begin, end, most=4000)
                    found = return_traces(one, names)
                    self.assertEqual([len(path) for path in found], [times[name] for name in told])
                    self.assertEqual(found, tuple(trace(one, begin + told.begins[name], times[name]) for name in told))
                    self.assertEqual(len(set(found)), len(found))

    def test_trace_stands_twice(self):
        for one in ALL:
            for many in (1, 2, 3):
                for names in traces(one, many):
                    for path in return_traces(one, names):
                        longer = (*path, *names)
                        self.assertIsNotNone(stretch_of(one, longer))
                        places = [at for at in range(len(longer)) if longer[at:at + many] == names]
                        self.assertEqual(places, [0, len(path)])
        for one in (GOLD, MIX, ONES):
            for names in traces(one, 2):
                found = return_traces(one, names)
                for longer in itertools.chain.from_iterable(traces(one, size) for size in range(3, 12)):
                    places = [at for at in range(len(longer) - 1) if longer[at:at + 2] == names]
                    if places == [0, len(longer) - 2]:
                        self.assertIn(longer[:-2], found)

    def test_through(self):
        for one in THROUGH:
            for many in (1, 3):
                for names in traces(one, many):
                    found = return_traces(one, names)
                    self.assertEqual(len(found), len(one))
                    ends = [stretch_of(one, (*path, *names)) for path in found]
                    length = total_of((end - begin) * len(path) for (begin, end), path in zip(ends, found))
                    self.assertEqual(length, one.total)

    def test_most_letters(self):
        one = Exchange.read("a b", "b a", "3999", "1")
        self.assertEqual(return_traces(one, ("b",)), (("b",) + ("a",) * 3999,))
        self.refuses_many(4000, return_traces, Exchange.read("a b", "b a", "4000", "1"), ("b",))

    def test_letters_together_at_the_bound(self):
        one = Exchange.read("a b", "b a", "1997+1r2", "1")
        self.assertEqual([len(path) for path in return_traces(one, ("b",))], [2000, 1999])
        one = Exchange.read("a b", "b a", "1998+1r2", "1")
        self.assertEqual(set(returns_to(one, one.begins["b"], one.total, most=4000)[1].values()), {2000, 2001})
        self.refuses_many(4000, return_traces, one, ("b",))

    def test_long_traces(self):
        names = ("b",) + ("a",) * 3999
        one = Exchange.read("a b", "b a", "3999", "1")
        self.assertEqual(return_traces(one, names), (names,))
        self.assertEqual(return_traces(ONES, ("a", "c") * 2000), (("a", "c"),))
        self.refuses(InvalidTrace, return_traces, ONES, ("a", "c") * 2000 + ("a",))

    def test_wrong_arguments(self):
        for names in (("a",), (), None, ("b", "b")):
            self.refuses_all(InvalidExchange, return_traces, but=EXCHANGES, behind=(names,))
        self.refuses_all(InvalidTrace, return_traces, GOLD, but=[
            value for value in ALL_KINDS if value in (("a",), ("a", "b"), ("b", "a", "b"), ("a", "a"))])
        for names in ((), ["a"], ("c",), ("a", 1), "a", ("b", "b"), ("a", "a", "a"), ("a", None), ("a", ("a",))):
            self.refuses(InvalidTrace, return_traces, GOLD, names)


class ReversedTest(CallTest):

    def test_is_reversed(self):
        for order in (Order.read("a", "a"), Order.read("a b", "b a"), Order.read("c a b", "b a c")):
            self.assertIs(is_reversed(order), True)
        for order in (Order.read("a b", "a b"), Order.read("a b c", "c a b"), Order.read("a b c d", "d b c a")):
            self.assertIs(is_reversed(order), False)
        self.refuses_all(InvalidOrder, is_reversed, but=ORDERS)

    def test_traces_of_reversed_orders(self):
        for one in ALL:
            if is_reversed(one.order):
                for many in (1, 2, 4):
                    found = traces(one, many)
                    for names in found:
                        self.assertIn(names[::-1], found)
                        (begin, end), (low, high) = stretch_of(one, names), stretch_of(one, names[::-1])
                        self.assertEqual(end - begin, high - low)

    def test_palindromes(self):
        for one in ALL:
            for many in (1, 2, 3, 6, 7):
                told = tuple(names for names in traces(one, many) if list(names) == list(reversed(names)))
                self.assertEqual(palindromes(one, many), told)
        self.assertEqual(len(palindromes(FOUR, 40)), 1)

    def test_through(self):
        found = [one for one in THROUGH if is_reversed(one.order)]
        self.assertGreater(len(found), 8)
        for one in found:
            for many in range(1, 8):
                told = palindromes(one, many)
                self.assertEqual(len(told), len(one) if many % 2 else 1)
                self.assertEqual({names[1:-1] for names in palindromes(one, many + 2)}, set(told))

    def test_what_is_not_true(self):
        self.assertEqual(palindromes(reversed_exchange([Number(1), Number(1)]), 2), ())
        self.assertEqual(return_traces(ONES, ("a",)), (("a", "c"),))
        told = [(names, return_traces(GOLD, names)) for names in traces(GOLD, 2)
                if names not in [branch for branch, _ in branchings(GOLD, 2)]]
        self.assertTrue(any(len(found) > 1 for _, found in told))


if __name__ == "__main__":
    unittest.main()
