"""Strips of an exchange that comes round, spread over the segments of the leaves of its reading."""

from pieceround.base.grids import plus
from pieceround.rounds.readings import CYCLE
from pieceround.rounds.segments import segment_of


class Spread:
    """Pieces of strips, led into ever shorter segments, those behind the rounds of a reading, up to those of leaves.

    Each way of a point comes once into the segments of the leaves. So strips have each way just once if they cover
    these segments without meeting there. A piece is a triple (low, high, period), on a grid with the given numbers.
    """

    def __init__(self, exchange, numbers):
        self.segment = segment_of(exchange, numbers)
        self.grid = self.segment.grid

    def covers(self, reading, strips):
        """Whether strips (begin, end, period), told by numbers, have each way of a point just once, and its period."""
        pieces = []
        for begin, end, period in strips:
            piece = (self.grid.pair(begin), self.grid.pair(end), period)
            if begin.sign < 0 or self.grid.compared(piece[1], self.segment.stop) > 0 or begin.compared(end) >= 0:
                return False
            if not self.put(pieces, piece):
                return False
        return self.fills(self.segment, reading, pieces)

    def fills(self, segment, reading, pieces):
        """Whether ascending pieces cover, for the reading of a segment, the segments of its leaves without meeting."""
        for block, entry in list(zip(segment.blocks(), reading)):
            inner = self.cut_off(pieces, block.starts[block.upper_row[0]], block.stop)
            is_right = self.fill_leaf(block, inner) if entry[0] == CYCLE else self.fill_rounds(block, entry, inner)
            if not is_right:
                return False
        return True

    def fill_leaf(self, block, pieces):
        """Whether pieces stand one behind the other from the begin of a leaf to its end, and have its period."""
        name = block.upper_row[0]
        end, period = block.starts[name], block.period_of(name)
        for low, high, told in pieces:
            if low != end or told != period:
                return False
            end = high
        return end == block.stop

    def fill_rounds(self, block, entry, pieces):
        """Whether pieces in a block fill what is left behind the rounds of its entry."""
        for kind in entry[1]:
            # What is cut off lies in the last piece of the block.
            move = block.moves[block.upper_row[-1]]
            led = self.cut_off(pieces, block.stop_behind(kind), block.stop)
            for low, high, period in led:
                if not self.put(pieces, (plus(low, move), plus(high, move), period)):
                    return False
            block.do_round(kind)
        return self.fills(block, entry[2], pieces)

    def cut_off(self, pieces, start, stop):
        """Take out of ascending pieces what lies from one place on and below another one: the list of it."""
        first, last = self.split_at(pieces, start), self.split_at(pieces, stop)
        taken = pieces[first:last]
        del pieces[first:last]
        return taken

    def split_at(self, pieces, place):
        """Part the piece inside which a place lies, if there is one: the index of the first piece from the place on."""
        index = self.index_of(pieces, place)
        if index > 0 and self.grid.compared(place, pieces[index - 1][1]) < 0:
            low, high, period = pieces[index - 1]
            pieces[index - 1] = (low, place, period)
            pieces.insert(index, (place, high, period))
        return index

    def put(self, pieces, piece):
        """Put a piece among ascending ones: whether it meets none of them."""
        low, high, _ = piece
        index = self.index_of(pieces, low)
        if index > 0 and self.grid.compared(pieces[index - 1][1], low) > 0:
            return False
        if index < len(pieces) and self.grid.compared(high, pieces[index][0]) > 0:
            return False
        pieces.insert(index, piece)
        return True

    def index_of(self, pieces, place):
        """How many of ascending pieces begin ahead of a place."""
        low, high = 0, len(pieces)
        while low < high:
            middle = (low + high) // 2
            if self.grid.compared(pieces[middle][0], place) < 0:
                low = middle + 1
            else:
                high = middle
        return low
