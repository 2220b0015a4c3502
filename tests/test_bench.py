"""Stage 19: a bench."""

import random
import unittest

from pieceround.base.numbers import Number
from pieceround.base.orders import Order
from pieceround.errors import (
    InvalidExchange, InvalidNumber, InvalidOperation, InvalidPoint, NothingToUndo, Refused, TooMany,
)
from pieceround.glue.surfaces import marks
from pieceround.piece.exchanges import Exchange, are_same, behind, cut_at, joined
from pieceround.rounds.rounds import course_of, rounded, rounded_by
from pieceround.same.wedges import wedge
from pieceround.trace.traces import trace
from pieceround.use import bench as module
from pieceround.use.bench import Bench, is_pledge
from tests.models import (
    FOUR, GOLD, MIX, NAMED, ONES, OTHERS, SPLIT, names_with, points_of, random_exchanges, reversed_exchange,
)
from tests.samples import ALL_KINDS, EXCHANGES, SIXTY, SIXTY_ONE, CallTest

SOURCE = random.Random(19)
ALL = NAMED + OTHERS + random_exchanges(30, 191)
HALF = Number(1, bottom=2)
NO_NEWS = ((), ())
RIGHT_PLEDGES = [
    ("whole",), ("names", 1), ("names", 2), ("names", SIXTY), ("total", Number(1)), ("total", Number(0)),
    ("total", Number(-1, 1, root=7)), ("wedge", Number(-1)), ("wedge", Number(1, 1, root=5)),
    ("at", Number(1), Number(2)), ("at", Number(-1), Number(0, 1, root=3)), ("trace", ("a",)), ("trace", ("a",) * 40),
    ("trace", ("zz", "b", "zz")), ("marks", ((), 1, 0)), ("marks", ((1,), 1, -1)), ("marks", ((1, 1, 2), 5, 1)),
    ("marks", ((1, 2, 3), 1, 0)),
    ("marks", ((SIXTY,), SIXTY, 0)),
]
WRONG_PLEDGES = [
    (), ("whole", 1), ("whole", ()), ["whole"], "whole", ("Whole",), ("none",), ("names",), ("names", 0), ("names", -1),
    ("names", True), ("names", "2"), ("names", Number(2)), ("names", None), ("names", SIXTY_ONE), ("names", 2, 2),
    ["names", 2], ("total",), ("total", 1), ("total", None), ("total", "1"), ("total", Number(1), Number(1)),
    ("wedge",), ("wedge", 0), ("wedge", "0"), ("wedge", Number(0), 0), ("at",), ("at", Number(1)),
    ("at", Number(1), 2), ("at", 1, Number(2)), ("at", Number(1), None), ("at", (Number(1), Number(2))),
    ("at", Number(1), Number(1), Number(1)), ("trace",), ("trace", ()), ("trace", ("a",) * 41), ("trace", "a"),
    ("trace", ["a"]), ("trace", ("A",)), ("trace", (1,)), ("trace", ("a", None)), ("trace", ("a",), ("b",)),
    ("trace", ("abcdefghi",)), ("marks",), ("marks", (1,), 1, 0), ("marks", ((1,), 1)), ("marks", ((1,), 1, 2)),
    ("marks", ((1,), 1, -2)), ("marks", ((1,), 1, True)), ("marks", ((1,), 1, None)), ("marks", ((1,), 0, 1)),
    ("marks", ((1,), True, 1)), ("marks", ((0,), 1, 1)), ("marks", ((True,), 1, 1)), ("marks", ((2, 1), 1, 1)),
    ("marks", ((1, 3, 2), 1, 1)), ("none", ((1,), 1, 1)), ("", ((1,), 1, 1)), (1, ((1,), 1, 1)),
    ("marks", ([1], 1, 1)), ("marks", [(1,), 1, 1]), ("marks", ((1,), 1, 1, 1)), ("marks", (1, 1, 1)),
    ("marks", (("1",), 1, 1)), ("marks", ((SIXTY_ONE,), 1, 1)), ("marks", ((1,), "1", 1)), ("marks", ((1,), 1, "1")),
    ("names", Number(1, 1, root=2)), (1,), (None,), (True, 2), (("whole",),), (Number(1),),
]


def lines_of(exchange):
    rows = [" ".join(("upper", *exchange.order.above)), " ".join(("lower", *exchange.order.below))]
    return tuple(rows + [f"length {name} {exchange.lengths[name]}" for name in sorted(exchange)])


def news_of(before, after):
    return tuple(sorted(set(before) - set(after))), tuple(sorted(set(after) - set(before)))


class PledgeTest(CallTest):

    def test_constants(self):
        self.assertEqual((module.MAX_PLEDGES, module.MAX_ROUNDS), (10, 1000))

    def test_values(self):
        for value in RIGHT_PLEDGES:
            self.assertIs(is_pledge(value), True, value)
        for value in WRONG_PLEDGES + ALL_KINDS:
            self.assertIs(is_pledge(value), False, value)
        for value in ALL_KINDS:
            for word in ("whole", "names", "total", "wedge", "at", "trace", "marks"):
                told = word in ("total", "wedge") and isinstance(value, Number)
                told = told or word == "names" and type(value) is int and 1 <= value <= SIXTY
                told = told or (word == "trace" and type(value) is tuple and 1 <= len(value) <= 40
                                and all(type(name) is str and name.isalpha() and name.islower() and len(name) <= 8
                                        for name in value))
                self.assertIs(is_pledge((word, value)), told, (word, value))

    def test_what_they_say(self):
        for one in ALL:
            point = points_of(one)[-1]
            names = trace(one, point, 40)
            kept = [("names", len(one)), ("names", 41), ("total", one.total), ("wedge", wedge(one)),
                    ("at", point, one(point)), ("at", Number(0), one(Number(0))), ("trace", names),
                    ("trace", names[3:9])]
            lost = [("names", len(one) - 1)] if len(one) > 1 else []
            other_total = one.total * Number(0, 1, root=11) if one.root == 0 else Number(1)
            lost += [("total", one.total + 1), ("total", other_total),
                     ("wedge", wedge(one) + 1), ("at", point, one(point) + 1), ("at", one.total, Number(0)),
                     ("at", Number(-1), Number(-1)), ("at", Number(0, 1, root=997), Number(0)),
                     ("trace", (*names[:5], "none")), ("trace", ("none",))]
            pledges = [("whole",), ("marks", marks(one.order))]
            (kept if one.order.is_whole else lost).extend(pledge for pledge in pledges if is_pledge(pledge))
            for pledge in kept:
                bench = Bench(one)
                self.assertEqual((bench.demand(pledge), bench.pledges), (NO_NEWS, (pledge,)))
            for pledge in lost:
                bench = Bench(one)
                self.assertEqual(self.refuses(Refused, bench.demand, pledge).reason, pledge)
                self.assertEqual((bench.pledges, bench.changes, bench == Bench(one)), ((), 0, True))

    def test_traces_that_do_not_come(self):
        bench = Bench(GOLD)
        for names in (("b", "b"), ("a", "a", "a"), ("a", "c")):
            self.assertEqual(self.refuses(Refused, bench.demand, ("trace", names)).reason, ("trace", names))
        bench.demand(("trace", ("a", "a", "b")))

    def test_marks_of_orders_that_are_not_whole(self):
        one = Exchange.read("a b c d", "b a d c", "1", "1", "1", "1")
        pledge = ("marks", marks(one.order))
        self.assertIs(is_pledge(pledge), True)
        self.assertEqual(self.refuses(Refused, Bench(one).demand, pledge).reason, pledge)
        other = ("marks", ((1,), 1, 1))
        self.assertEqual(self.refuses(Refused, Bench(GOLD).demand, other).reason, other)

    def test_demands(self):
        bench = Bench(GOLD)
        for many in range(10):
            self.assertEqual((bench.demand(("names", 5 + many)), len(bench)), (NO_NEWS, many + 1))
        self.refuses_many(10, bench.demand, ("names", 20))
        # What is there already comes ahead of the bound, and this ahead of what does not hold.
        self.refuses(InvalidOperation, bench.demand, ("names", 5))
        self.refuses(InvalidOperation, bench.demand, ("names", True))
        self.refuses_many(10, bench.demand, ("total", Number(7)))
        self.assertEqual((len(bench), bench.changes), (10, 10))
        bench.waive(("names", 9))
        self.assertEqual(bench.pledges, tuple(("names", 5 + many) for many in range(10) if many != 4))
        self.refuses(InvalidOperation, bench.waive, ("names", 9))
        bench.demand(("names", 9))
        self.assertEqual(bench.pledges[-1], ("names", 9))

    def test_wrong_pledges(self):
        bench = Bench(ONES)
        bench.demand(("names", 3))
        bench.demand(("marks", ((1, 1), 1, -1)))
        for value in WRONG_PLEDGES + ALL_KINDS:
            self.refuses(InvalidOperation, bench.demand, value)
            self.refuses(InvalidOperation, bench.waive, value)
        for value in RIGHT_PLEDGES:
            self.refuses(InvalidOperation, bench.waive, value) if value != ("names", 3) else None
        # What is like a pledge that is there but for True in the place of 1 is none.
        for value in (("marks", ((1, True), 1, -1)), ("marks", ((1, 1), True, -1))):
            self.assertIs(value in bench, False)
            self.refuses(InvalidOperation, bench.waive, value)
        self.assertEqual((len(bench), bench.changes), (2, 2))

    def test_the_first_pledge_that_would_be_broken(self):
        bench = Bench(GOLD)
        pledges = [("whole",), ("total", GOLD.total), ("names", 2), ("at", Number(1), Number(2))]
        for pledge in pledges:
            bench.demand(pledge)
        for call, told in ((lambda: bench.cut((Number(1), HALF)), pledges[2]), (bench.round, pledges[1]),
                           (bench.turn, pledges[3]), (lambda: bench.scale(Number(2)), pledges[1]),
                           (lambda: bench.compose(GOLD.inverse()), pledges[0]),
                           (lambda: bench.round(many=1000), pledges[1])):
            self.assertEqual(self.refuses(Refused, call).reason, told)
        self.assertEqual((bench.exchange, bench.pledges, bench.changes), (GOLD, tuple(pledges), 4))
        self.assertEqual(bench.rename({"a": "b", "b": "a"})[0][0], "length a (1+1r5)/2")
        bench.demand(("trace", ("b", "b", "a")))
        # Their own errors come first.
        self.refuses(InvalidPoint, bench.cut, (Number(9),))
        self.refuses(InvalidNumber, bench.scale, Number(0))
        self.assertEqual(self.refuses(Refused, bench.rename, {"a": "x", "b": "y"}).reason, ("trace", ("b", "b", "a")))


class ChangesTest(CallTest):

    def check_news(self, bench, told, call, *args, **named):
        """The change leads to this exchange, and returns the news."""
        before, many = bench.lines, bench.changes
        news = call(*args, **named)
        self.assertEqual(bench.exchange, told)
        self.assertEqual((bench.lines, news, bench.changes), (lines_of(told), news_of(before, bench.lines), many + 1))

    def test_changes(self):
        for one in ALL:
            bench = Bench(one)
            points = tuple(points_of(one)[1:4])
            if one.root:
                self.check_news(bench, cut_at(one, points), bench.cut, points)
                self.assertTrue(are_same(bench.exchange, one) and bench.wedge == wedge(one))
                self.check_news(bench, joined(one), bench.join)
                self.assertTrue(are_same(bench.exchange, one) and bench.wedge == wedge(one))
            now = bench.exchange
            for backwards in (False, True):
                told = now.backwards() if backwards else now.inverse()
                self.check_news(bench, told, bench.turn, backwards=backwards)
                self.assertEqual(bench.wedge, -wedge(now))
                now = bench.exchange
            self.check_news(bench, now.inverse(), bench.turn)
            number = Number(1, 1, root=now.root or 3, bottom=3)
            now = bench.exchange
            self.check_news(bench, now.scaled(number), bench.scale, number)
            self.assertEqual(bench.wedge, wedge(now) * number.norm)
            now = bench.exchange
            names = dict(zip(sorted(now), names_with(40)[::-1]))
            told = Exchange(now.order.renamed(names), {names[name]: now.lengths[name] for name in now})
            self.check_news(bench, told, bench.rename, names)
            self.assertEqual(bench.wedge, wedge(now))
            for ahead in (False, True):
                now = bench.exchange
                told = behind(now, now.inverse()) if not ahead else behind(now, now)
                self.check_news(bench, told, bench.compose, now.inverse() if not ahead else now, ahead=ahead)
                self.assertEqual(bench.wedge, wedge(now) + (-wedge(now) if not ahead else wedge(now)))

    def test_composed_ahead_and_behind(self):
        other = Exchange.read("a b", "b a", "1", "(1+1r5)/2").inverse()
        three = Exchange.read("a b c", "c b a", "1", "(-1+1r5)/2", "1")
        for ahead, told in ((False, behind(three, other)), (True, behind(other, three))):
            bench = Bench(three)
            self.check_news(bench, told, bench.compose, other, ahead=ahead)
        self.assertNotEqual(behind(three, other), behind(other, three))
        bench = Bench(three)
        self.check_news(bench, behind(three, other), bench.compose, other)

    def test_rounds(self):
        for one in ALL:
            course = course_of(one, 12)
            for many in (0, 1, 2, 5, 12):
                bench = Bench(one)
                if len(course) < many:
                    self.refuses(InvalidOperation, bench.round, many=many)
                    self.assertEqual((bench.exchange, bench.changes), (one, 0))
                else:
                    self.check_news(bench, rounded_by(one, course[:many]), bench.round, many=many)
                    self.assertEqual(bench.wedge, wedge(one))
                    if "even" not in course[:many]:
                        self.assertEqual(marks(bench.exchange.order), marks(one.order))
            if course:
                bench = Bench(one)
                self.check_news(bench, rounded(one), bench.round)
        bench = Bench(GOLD)
        bench.round(many=1000)
        self.assertEqual(bench.exchange, rounded_by(GOLD, course_of(GOLD, 1000)))

    def test_errors(self):
        bench = Bench(GOLD)
        self.refuses_all(InvalidPoint, bench.cut, but=[value for value in ALL_KINDS if value in ((), (Number(1),))])
        self.refuses(InvalidPoint, bench.cut, (GOLD.total,))
        self.refuses(InvalidPoint, bench.cut, (Number(0, 1, root=2),))
        self.refuses_many(40, bench.cut, tuple(Number(index, bottom=50) for index in range(40)))
        self.refuses_all(InvalidNumber, bench.scale, but=[value for value in ALL_KINDS if isinstance(value, Number)])
        for number in (Number(0), Number(-1), Number(1, 1, root=2), Number(1, -1, root=5)):
            self.refuses(InvalidNumber, bench.scale, number)
        self.refuses_all(InvalidOperation, bench.rename)
        for names in ({"a": "x"}, {"a": "x", "b": "x"}, {"a": "x", "b": "y", "c": "z"}, {"a": "x", "c": "y"},
                      {"a": "x", "b": 1}, {"a": "x", "b": "Y"}, [("a", "x"), ("b", "y")]):
            self.refuses(InvalidOperation, bench.rename, names)
        for ahead in (False, True, None):
            self.refuses_all(InvalidExchange, lambda value: bench.compose(value, ahead=ahead), but=EXCHANGES)
        for value in ALL_KINDS:
            if value is not True and value is not False:
                self.refuses(InvalidOperation, bench.compose, GOLD, ahead=value)
                self.refuses(InvalidOperation, bench.compose, ONES, ahead=value)
                self.refuses(InvalidOperation, bench.turn, backwards=value)
        self.refuses(InvalidOperation, bench.compose, ONES)
        self.refuses(InvalidOperation, bench.compose, MIX, ahead=True)
        fine = reversed_exchange([Number(3 + index * index % 17) for index in range(30)])
        for ahead in (False, True):
            self.refuses_many(40, Bench(fine).compose, fine, ahead=ahead)
        self.assertEqual((bench.exchange, bench.changes, bench.lines), (GOLD, 0, lines_of(GOLD)))

    def test_rounds_that_are_refused(self):
        for one in (GOLD, ONES, Exchange.read("a", "a", "1")):
            bench = Bench(one)
            self.refuses_counts(0, 1000, lambda many: bench.round(many=many))
            self.assertEqual((bench.exchange, bench.changes), (one, 0))
        self.refuses_count(1001, Bench(GOLD).round, many=1001)
        bench = Bench(SPLIT)
        self.refuses(InvalidOperation, bench.round, many=2)
        bench.round()
        self.refuses(InvalidOperation, bench.round)
        self.assertEqual((bench.round(many=0), bench.changes), (NO_NEWS, 2))

    def test_a_refused_call_changes_nothing(self):
        bench = Bench(GOLD)
        bench.demand(("whole",))
        bench.round()
        bench.undo()
        twin = bench.twin()
        for call in (lambda: bench.round(many=-1), lambda: bench.cut((Number(5),)), lambda: bench.scale(Number(0)),
                     lambda: bench.compose(GOLD.inverse()), lambda: bench.rename({}), lambda: bench.waive(("names", 1)),
                     lambda: bench.demand(("names", 1)), lambda: bench.demand(("whole",)), lambda: bench.undo(many=2),
                     lambda: bench.redo(many=2), lambda: bench.turn(backwards=1), lambda: bench.undo(many=True)):
            self.assertRaises(Exception, call)
            self.assertEqual((bench == twin, bench.changes, bench.lines), (True, 1, twin.lines))
        # What was taken back can still be done again.
        self.assertEqual(bench.redo(), twin.redo())

    def test_wrong_exchange(self):
        self.refuses_all(InvalidExchange, Bench, but=EXCHANGES)


class UndoTest(CallTest):

    def changed(self):
        """A bench with many changes, and what it had ahead of each of them and at the end."""
        bench = Bench(FOUR)
        told = [(bench.exchange, bench.pledges)]
        calls = [bench.round, lambda: bench.demand(("names", 4)), lambda: bench.round(many=3), bench.join,
                 lambda: bench.scale(Number(2)), lambda: bench.demand(("whole",)), bench.turn,
                 lambda: bench.waive(("names", 4)), lambda: bench.cut((HALF,)), lambda: bench.turn(backwards=True),
                 lambda: bench.rename(dict(zip(bench.exchange, names_with(20)[::-1])))]
        for call in calls:
            call()
            told.append((bench.exchange, bench.pledges))
        return bench, told

    def test_back_and_on(self):
        bench, told = self.changed()
        many = len(told) - 1
        self.assertEqual(bench.changes, many)
        at = many
        for _ in range(200):
            to = SOURCE.randint(0, many)
            before = bench.lines
            news = bench.undo(many=at - to) if to <= at else bench.redo(many=to - at)
            self.assertEqual((bench.exchange, bench.pledges, bench.changes), (*told[to], to))
            self.assertEqual(news, news_of(before, bench.lines))
            at = to

    def test_none_and_more_than_there_are(self):
        bench, told = self.changed()
        for one in (bench.undo, bench.redo):
            self.assertEqual(one(many=0), NO_NEWS)
        for many in (1, 2, SIXTY):
            self.assertEqual(self.refuses(NothingToUndo, bench.redo, many=many).wanted, many)
        for many in (len(told), len(told) + 1, SIXTY):
            self.assertEqual(self.refuses(NothingToUndo, bench.undo, many=many).wanted, many)
        bench.undo(many=len(told) - 1)
        self.assertEqual((bench.exchange, bench.changes, bench.pledges), (FOUR, 0, ()))
        self.assertEqual(self.refuses(NothingToUndo, bench.undo).wanted, 1)
        self.assertEqual(self.refuses(NothingToUndo, bench.redo, many=len(told)).wanted, len(told))
        bench.redo(many=len(told) - 1)
        self.assertEqual((bench.exchange, bench.pledges), told[-1])
        empty = Bench(GOLD)
        self.assertEqual((empty.undo(many=0), empty.redo(many=0)), (NO_NEWS, NO_NEWS))
        self.assertEqual(self.refuses(NothingToUndo, empty.redo).wanted, 1)

    def test_wrong_counts(self):
        bench, _ = self.changed()
        for call in (bench.undo, bench.redo):
            for value in ALL_KINDS:
                if type(value) is not int or not 0 <= value <= SIXTY:
                    self.refuses_count(value, call, many=value)

    def test_another_change(self):
        bench, told = self.changed()
        bench.undo(many=4)
        bench.round(many=0)
        self.assertEqual((bench.changes, bench.exchange), (len(told) - 4, told[-5][0]))
        self.assertEqual(self.refuses(NothingToUndo, bench.redo).wanted, 1)
        bench.undo()
        self.assertEqual((bench.exchange, bench.pledges), told[-5])
        bench.redo()
        self.refuses(NothingToUndo, bench.redo)

    def test_pledges_are_not_asked(self):
        bench = Bench(GOLD)
        bench.scale(Number(2))
        bench.demand(("total", bench.exchange.total))
        # The exchange of the beginning does not keep the pledge, which is not there either.
        self.assertEqual(bench.undo(many=2)[1], ("length a (1+1r5)/2", "length b 1"))
        self.assertEqual((bench.pledges, bench.exchange), ((), GOLD))
        bench.redo(many=2)
        self.assertEqual(bench.pledges, (("total", GOLD.total * 2),))

    def test_changes_that_change_nothing(self):
        bench = Bench(GOLD)
        for call in (bench.join, lambda: bench.cut(()), lambda: bench.scale(Number(1)), lambda: bench.round(many=0),
                     lambda: bench.rename({"a": "a", "b": "b"})):
            many = bench.changes
            self.assertEqual((call(), bench.changes, bench.exchange), (NO_NEWS, many + 1, GOLD))
        self.assertEqual(bench.undo(many=5), NO_NEWS)


class TrialTest(CallTest):

    def prepared(self):
        bench = Bench(FOUR)
        bench.demand(("names", 9))
        bench.round()
        bench.turn()
        bench.undo()
        return bench

    def check_unchanged(self, bench):
        self.assertEqual((bench.exchange, bench.pledges, bench.changes), (rounded(FOUR), (("names", 9),), 2))
        bench.redo()
        self.assertEqual(bench.exchange, rounded(FOUR).inverse())
        bench.undo(many=3)
        self.assertEqual((bench.exchange, bench.pledges), (FOUR, ()))
        self.refuses(NothingToUndo, bench.undo)

    def test_blocks(self):
        bench = self.prepared()
        with bench.trial() as same:
            self.assertIs(same, bench)
            same.round(many=5)
            same.waive(("names", 9))
            same.undo(many=3)
            bench.scale(Number(7))
        self.check_unchanged(bench)

    def test_empty_blocks(self):
        bench = self.prepared()
        with bench.trial():
            pass
        self.check_unchanged(bench)

    def test_errors_go_on(self):
        bench = self.prepared()
        for error in (KeyError, InvalidOperation, TooMany, KeyboardInterrupt):
            with self.assertRaises(error):
                with bench.trial() as same:
                    same.undo(many=2)
                    same.turn(backwards=True)
                    raise error("told")
        with self.assertRaises(NothingToUndo):
            with bench.trial() as same:
                same.undo(many=9)
        self.check_unchanged(bench)

    def test_blocks_in_blocks(self):
        bench = self.prepared()
        with bench.trial() as same:
            same.round()
            told = same.exchange
            with same.trial() as inner:
                inner.undo(many=2)
                inner.join()
                with inner.trial():
                    inner.scale(Number(3))
                self.assertEqual((inner.exchange, inner.changes), (joined(FOUR), 2))
            self.assertEqual((same.exchange, same.changes), (told, 3))
            self.refuses(NothingToUndo, same.redo)
        self.check_unchanged(bench)

    def test_a_block_is_entered_later(self):
        bench = Bench(GOLD)
        block = bench.trial()
        bench.round()
        with block:
            bench.round()
        self.assertEqual((bench.exchange, bench.changes), (rounded(GOLD), 1))

    def test_during(self):
        bench = self.prepared()
        self.assertEqual(bench.during(lambda same: (same.round(), same is bench, same.changes))[1:], (True, 3))
        self.assertIsNone(bench.during(lambda same: None))
        self.assertIs(bench.during(lambda same: same), bench)
        def fail(same):
            same.undo(many=2)
            raise KeyError("told")
        self.refuses(KeyError, bench.during, fail)
        self.assertEqual(bench.during(lambda same: same.during(lambda inner: inner.undo(many=2)) and same.changes), 2)
        self.check_unchanged(bench)

    def test_twins(self):
        bench = self.prepared()
        twin = bench.twin()
        self.assertEqual((twin == bench, twin is bench, twin.lines, twin.changes), (True, False, bench.lines, 2))
        twin.round(many=4)
        twin.demand(("whole",))
        self.assertEqual((bench.changes, twin.changes, bench == twin), (2, 4, False))
        other = bench.twin()
        other.undo(many=2)
        self.assertEqual((other.exchange, twin.exchange != bench.exchange), (FOUR, True))
        self.check_unchanged(bench)
        # The twin can be taken back as well, and done again.
        twin.undo(many=4)
        self.assertEqual((twin.exchange, twin.pledges), (FOUR, ()))
        twin.redo(many=2)
        self.assertEqual((twin.exchange, twin.pledges), (rounded(FOUR), (("names", 9),)))
        third = self.prepared().twin()
        self.check_unchanged(third)

    def test_twins_in_blocks(self):
        bench = self.prepared()
        with bench.trial() as same:
            same.scale(Number(2))
            twin = same.twin()
        self.assertEqual((twin.exchange, twin.changes), (rounded(FOUR).scaled(Number(2)), 3))
        self.check_unchanged(bench)


class MembersTest(CallTest):

    def test_members(self):
        for one in ALL:
            bench = Bench(one)
            self.assertEqual((bench.exchange, bench.lines, bench.wedge), (one, lines_of(one), wedge(one)))
            self.assertEqual((bench.pledges, bench.changes, len(bench)), ((), 0, 0))
            self.assertEqual((list(bench), str(bench)), (list(bench.lines), f"bench of {len(one)} names, 0 pledges"))

    def test_in(self):
        bench = Bench(GOLD)
        bench.demand(("total", GOLD.total))
        bench.demand(("names", 2))
        for value in (*bench.lines, ("total", GOLD.total), ("names", 2)):
            self.assertIs(value in bench, True)
        for value in [*ALL_KINDS, *WRONG_PLEDGES, ("names", 3), ("names", True), "upper b a", "length b", "upper a b ",
                      ("whole",), ("total", Number(1)), ["names", 2], GOLD, bench]:
            self.assertIs(value in bench, False)
        self.assertEqual((len(bench), str(bench)), (2, "bench of 2 names, 2 pledges"))
        bench.turn(backwards=True)
        self.assertEqual(list(bench), ["upper b a", "lower a b", "length a (1+1r5)/2", "length b 1"])

    def test_equal(self):
        bench = Bench(GOLD)
        for value in [*ALL_KINDS, Bench(ONES), GOLD]:
            self.assertEqual((bench == value, bench != value), (value == bench, value != bench))
            self.assertIs(bench == value, isinstance(value, Bench) and value.exchange == GOLD and not value.pledges)
        other = Bench(GOLD)
        bench.demand(("names", 2))
        self.assertFalse(bench == other)
        other.demand(("whole",))
        other.demand(("names", 2))
        bench.demand(("whole",))
        # The order of the demands counts, and the changes do not.
        self.assertFalse(bench == other)
        other.waive(("whole",))
        other.demand(("whole",))
        self.assertTrue(bench == other and bench.changes != other.changes)

    def test_long_names_and_orders(self):
        names = tuple("z" * 8 if index == 0 else name for index, name in enumerate(names_with(40)))
        one = Exchange(Order(names, names[::-1]), {name: Number(1) for name in names})
        bench = Bench(one)
        self.assertEqual((len(bench.lines), bench.lines[0]), (42, " ".join(("upper", *names))))
        self.assertEqual(bench.lines, lines_of(one))
        self.refuses(TypeError, iter, one.order.many)


if __name__ == "__main__":
    unittest.main()
