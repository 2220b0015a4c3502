"""Frames of an order, made of sets of names; a set is an integer with a bit for each of its names, told by indices."""


class Crossings:
    """Which names of an order cross, the names being told by their indices in the upper row."""

    def __init__(self, places):
        many = len(places)
        self.width = many
        # Of each name the set of the names that cross it, and of those among them that stand ahead of it above.
        self.crossed = [0] * many
        self.crossed_ahead = [0] * many
        for index, place in enumerate(places):
            for other in range(index):
                if places[other] > place:
                    self.crossed_ahead[index] |= 1 << other
                    self.crossed[index] |= 1 << other
                    self.crossed[other] |= 1 << index

    def crossed_by(self, names):
        """The set of the names that an odd number of the names of a set cross: it meets the others oddly by these."""
        found = 0
        for index in range(self.width):
            if names >> index & 1:
                found ^= self.crossed[index]
        return found

    def is_odd_size(self, names):
        """Whether a set has an odd size: its names, and each two of them that cross."""
        size = 0
        for index in range(self.width):
            if names >> index & 1:
                size += 1 + count_of(self.crossed_ahead[index] & names)
        return size % 2 == 1

    def frame(self):
        """A frame, told by sets: the pair of the list of the pairs and the list of the rest."""
        left = [(1 << index, self.crossed[index]) for index in range(self.width)]
        pairs, rest = [], []
        while left:
            one, crossed = left[0]
            mates = [index for index, row in enumerate(left) if is_odd(crossed & row[0])]
            if not mates:
                rest.append(one)
                left = left[1:]
                continue
            mate, mate_crossed = left[mates[0]]
            pairs.append((one, mate))
            others = [row for index, row in enumerate(left) if index not in (0, mates[0])]
            left = [_evened(row, (one, crossed), (mate, mate_crossed)) for row in others]
        return (pairs, rest)

    def are_frame(self, pairs, rest):
        """Whether pairs of sets and a rest, both lists, are a frame."""
        rows = [*[one for pair in pairs for one in pair], *rest]
        if len(rows) != self.width or rank_of(rows) != self.width:
            return False
        for index, one in enumerate(rows):
            crossed = self.crossed_by(one)
            for other in range(index):
                # The first sets stand in pairs: the one of an odd index is the mate of the one ahead of it.
                is_pair = other == index - 1 and index % 2 == 1 and index < 2 * len(pairs)
                if is_odd(crossed & rows[other]) != is_pair:
                    return False
        return True


def count_of(names):
    """How many names a set has."""
    return f"{names:b}".count("1")


def is_odd(names):
    """Whether a set has an odd number of names."""
    return count_of(names) % 2 == 1


def rank_of(rows):
    """How many of some sets are no sums of those ahead of them."""
    leaders = {}
    for row in rows:
        left = row
        while left != 0 and left.bit_length() in leaders:
            left ^= leaders[left.bit_length()]
        if left != 0:
            leaders[left.bit_length()] = left
    return len(leaders)


def _evened(row, one, mate):
    """A set, with what crosses it, made to meet both sets of a pair evenly: they are added to it as they must be."""
    names, crossed = row
    # To add one set of the pair changes the meeting with its mate alone.
    meets_one, meets_mate = is_odd(one[1] & names), is_odd(mate[1] & names)
    if meets_mate:
        names, crossed = names ^ one[0], crossed ^ one[1]
    if meets_one:
        names, crossed = names ^ mate[0], crossed ^ mate[1]
    return (names, crossed)
