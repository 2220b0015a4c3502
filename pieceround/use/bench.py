"""A bench: an exchange that is changed step by step, under pledges, and back."""

from pieceround.base.numbers import Number
from pieceround.base.words import are_names, is_integer, require_count
from pieceround.errors import InvalidCount, InvalidOperation, NothingToUndo, Refused, TooMany
from pieceround.piece.exchanges import Exchange, behind, cut_at, joined, require_exchange
from pieceround.rounds.rounds import rounded_often
from pieceround.same.wedges import wedge
from pieceround.use.pledges import AT, MARKS, NAMES, TOTAL, TRACE, WEDGE, WHOLE, holds

MAX_PLEDGES = 10
MAX_ROUNDS = 1000

MAX_TRACE_NAMES = 40


def is_pledge(value):
    """Whether the value is a pledge."""
    if not isinstance(value, tuple) or len(value) == 0:
        return False
    word, told = value[0], value[1:]
    if word == WHOLE:
        return told == ()
    if word == AT:
        return len(told) == 2 and isinstance(told[0], Number) and isinstance(told[1], Number)
    if len(told) != 1:
        return False
    if word == NAMES:
        return _is_from_one(told[0])
    if word == TOTAL or word == WEDGE:
        return isinstance(told[0], Number)
    if word == TRACE:
        return are_names(told[0]) and 1 <= len(told[0]) <= MAX_TRACE_NAMES
    return word == MARKS and _are_marks(told[0])


class Bench:
    """An exchange, and pledges that each change must keep."""

    def __init__(self, exchange):
        require_exchange(exchange)
        self._now = State(exchange, ())
        # All states, of which those behind the one at this index were taken back.
        self._states = [self._now]
        self._at = 0

    @property
    def exchange(self):
        """The exchange."""
        return self._now.kept

    @property
    def lines(self):
        """The tuple of the lines of the exchange."""
        return self._now.rows

    @property
    def wedge(self):
        """The wedge of the exchange."""
        return wedge(self._now.kept)

    @property
    def pledges(self):
        """The tuple of the pledges, in the order of demands."""
        return self._now.asked

    @property
    def changes(self):
        """How many changes can be taken back."""
        return self._at

    def cut(self, points):
        """Cut the pieces at these points, too."""
        return self._turn_to(cut_at(self._now.kept, points))

    def join(self):
        """Join what is cut needlessly."""
        return self._turn_to(joined(self._now.kept))

    def round(self, *, many=1):
        """Do so many rounds."""
        require_count(many, 0, MAX_ROUNDS)
        exchange = rounded_often(self._now.kept, many)
        if exchange is None:
            raise InvalidOperation("the order is not whole ahead of each round")
        return self._turn_to(exchange)

    def compose(self, other, *, ahead=False):
        """Do another exchange behind this one, or ahead of it."""
        require_exchange(other)
        _require_choice(ahead)
        return self._turn_to(behind(other, self._now.kept) if ahead else behind(self._now.kept, other))

    def turn(self, *, backwards=False):
        """Take the inverse exchange, or the one read backwards."""
        _require_choice(backwards)
        return self._turn_to(self._now.kept.backwards() if backwards else self._now.kept.inverse())

    def scale(self, number):
        """Multiply all lengths by a number."""
        return self._turn_to(self._now.kept.scaled(number))

    def rename(self, names):
        """Give the pieces other names."""
        exchange = self._now.kept
        order = exchange.order.renamed(names)
        return self._turn_to(Exchange(order, {names[name]: exchange.lengths[name] for name in exchange}))

    def demand(self, pledge):
        """Ask for a pledge from now on."""
        if not is_pledge(pledge) or pledge in self._now.asked:
            raise InvalidOperation("a pledge that is not there yet is asked for")
        if len(self._now.asked) >= MAX_PLEDGES:
            raise TooMany(MAX_PLEDGES)
        return self._change(self._now.kept, (*self._now.asked, pledge))

    def waive(self, pledge):
        """Ask for a pledge no more."""
        if not is_pledge(pledge) or pledge not in self._now.asked:
            raise InvalidOperation("a pledge that is there is asked for")
        return self._change(self._now.kept, tuple([other for other in self._now.asked if other != pledge]))

    def undo(self, *, many=1):
        """Take back so many changes."""
        _require_steps(many, self._at)
        return self._come_to(self._at - many)

    def redo(self, *, many=1):
        """Do so many changes again that were taken back."""
        _require_steps(many, len(self._states) - 1 - self._at)
        return self._come_to(self._at + many)

    def trial(self):
        """What makes, in a block, the bench be afterwards as it was."""
        return Trial(self)

    def during(self, call):
        """What a call with the bench returns, behind which the bench is as it was."""
        with Trial(self) as same:
            return call(same)

    def twin(self):
        """An independent copy, with all changes."""
        made = Bench(self._now.kept)
        made._now = self._now
        made._states = list(self._states)
        made._at = self._at
        return made

    def __contains__(self, value):
        return value in self._now.rows or is_pledge(value) and value in self._now.asked

    def __len__(self):
        return len(self._now.asked)

    def __iter__(self):
        return iter(self._now.rows)

    def __eq__(self, other):
        return (isinstance(other, Bench) and self._now.kept == other._now.kept
                and self._now.asked == other._now.asked)

    def __str__(self):
        return f"bench of {len(self._now.kept)} names, {len(self._now.asked)} pledges"

    def _turn_to(self, exchange):
        """Take another exchange: the news."""
        return self._change(exchange, self._now.asked)

    def _change(self, exchange, pledges):
        """Go on with an exchange and with pledges, which it must keep: the news."""
        for pledge in pledges:
            if not holds(exchange, pledge):
                raise Refused(pledge)
        del self._states[self._at + 1:]
        self._states.append(State(exchange, pledges))
        return self._come_to(self._at + 1)

    def _come_to(self, at):
        """Go to the state with this index: the news."""
        before = self._now.rows
        self._at = at
        self._now = self._states[at]
        after = self._now.rows
        gone = sorted([line for line in before if line not in after])
        return (tuple(gone), tuple(sorted([line for line in after if line not in before])))


class State:
    """What a bench has between two changes: the kept exchange, its lines, and the pledges that are asked."""

    def __init__(self, exchange, pledges):
        self.kept = exchange
        self.asked = pledges
        order, lengths = exchange.order, exchange.lengths
        rows = [" ".join(["upper", *order.above]), " ".join(["lower", *order.below])]
        self.rows = (*rows, *[f"length {name} {lengths[name]}" for name in order.names])


class Trial:
    """A block behind which a bench is as it was when the block was entered."""

    def __init__(self, bench):
        self._bench = bench
        self._now = None
        self._states = []
        self._at = 0

    def __enter__(self):
        bench = self._bench
        self._now = bench._now
        self._states = list(bench._states)
        self._at = bench._at
        return bench

    def __exit__(self, kind, value, trace):
        bench = self._bench
        bench._now = self._now
        bench._states = self._states
        bench._at = self._at


def _is_from_one(value):
    """Whether the value is an integer from 1 on."""
    return is_integer(value) and value >= 1


def _are_marks(value):
    """Whether the value is a triple of angles, from the least one on, of an angle, and of -1, 0 or 1."""
    if not isinstance(value, tuple) or len(value) != 3 or not isinstance(value[0], tuple):
        return False
    told, left, parity = value
    if not all([_is_from_one(angle) for angle in told]) or any([told[k] > told[k + 1] for k in range(len(told) - 1)]):
        return False
    return _is_from_one(left) and is_integer(parity) and abs(parity) <= 1


def _require_choice(value):
    """Raise InvalidOperation unless the value is True or False."""
    if value is not True and value is not False:
        raise InvalidOperation("True or False is asked for")


def _require_steps(many, most):
    """Raise the error of so many steps back or on, of which there are no more than most."""
    if not is_integer(many) or many < 0:
        raise InvalidCount(many)
    if many > most:
        raise NothingToUndo(many)
