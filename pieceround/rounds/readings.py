"""How readings are made, measured and turned over."""

from pieceround.base.orders import MAX_NAMES
from pieceround.rounds.rows import EVEN, LOWER, UPPER
from pieceround.rounds.segments import segment_of

CYCLE = "cycle"
ROUNDS = "rounds"
LOOP = "loop"


class Reader:
    """Makes the reading of a segment as long as there are rounds left."""

    def __init__(self, left):
        self.left = left

    def reading(self, segment):
        """The reading of the exchange of a segment, None if it has more rounds than are left."""
        entries = []
        for block in segment.blocks():
            entry = self.entry(block)
            if entry is None:
                return None
            entries.append(entry)
        return tuple(entries)

    def entry(self, block):
        """The entry of a block, None if it has more rounds than are left."""
        if len(block.upper_row) == 1:
            return (CYCLE,)
        course, seen = [], {}
        # Lengths without a root never come back but for a factor.
        has_root = block.grid.has_root()
        while not course or course[-1] != EVEN:
            key = self.likeness(block) if has_root else len(course)
            if key in seen:
                return (LOOP, tuple(course[:seen[key]]), tuple(course[seen[key]:]))
            if self.left == 0:
                return None
            seen[key] = len(course)
            self.left -= 1
            course.append(block.round_kind())
            block.do_round(course[-1])
        inner = self.reading(block)
        return None if inner is None else (ROUNDS, tuple(course), inner)

    def likeness(self, block):
        """What two states of a block share exactly if their rows are equal and their lengths differ by one factor."""
        lengths = block.grid.proportions([block.spans[name] for name in block.upper_row])
        return (tuple(block.upper_row), tuple(block.lower_row), lengths)


def reading_within(exchange, most):
    """The reading of an exchange, None if it has more rounds than most."""
    return Reader(most).reading(segment_of(exchange, ()))


def rounds_in(value, deep=MAX_NAMES):
    """How many rounds a value tells that looks like a reading, None if it does not, or is deeper than any reading."""
    if not isinstance(value, tuple) or deep == 0:
        return None
    many = 0
    for entry in value:
        told = _rounds_in_entry(entry, deep)
        if told is None:
            return None
        many += told
    return many


def leaves_in(reading):
    """How many leaves a reading has."""
    return sum([leaves_in(entry[2]) if entry[0] == ROUNDS else 1 for entry in reading])


def has_loop(reading):
    """Whether some leaf of a reading is a loop."""
    return any([entry[0] == LOOP or entry[0] == ROUNDS and has_loop(entry[2]) for entry in reading])


def turned_over(reading):
    """The reading of the inverse of an exchange that has this reading."""
    entries = []
    for entry in reading:
        if entry[0] == ROUNDS:
            entries.append((ROUNDS, _turned_course(entry[1]), turned_over(entry[2])))
        elif entry[0] == LOOP:
            entries.append((LOOP, _turned_course(entry[1]), _turned_course(entry[2])))
        else:
            entries.append(entry)
    return tuple(entries)


def _rounds_in_entry(entry, deep):
    """How many rounds a value tells that looks like the entry of a reading, None if it does not."""
    if entry == (CYCLE,):
        return 0
    if not isinstance(entry, tuple) or len(entry) != 3 or not isinstance(entry[1], tuple):
        return None
    if entry[0] == LOOP and isinstance(entry[2], tuple):
        return len(entry[1]) + len(entry[2])
    inner = rounds_in(entry[2], deep - 1) if entry[0] == ROUNDS else None
    return None if inner is None else len(entry[1]) + inner


def _turned_course(course):
    """The course with upper and lower exchanged."""
    turned = {UPPER: LOWER, LOWER: UPPER, EVEN: EVEN}
    return tuple([turned[kind] for kind in course])
