"""Boards: places, the ways between them, how far they are from one another, and lots of places."""

from roamlook.errors import BadLot, BadMany, BadOrder, BadText, BadWay, NoPlace

MOST_PLACES = 8


def is_number(thing):
    """Tell whether a thing is a number."""
    # To Python True and False are integers, to the document they are no numbers.
    return isinstance(thing, int) and not isinstance(thing, bool)


def is_between(thing, least, most):
    """Tell whether a thing is a number from least to most."""
    return is_number(thing) and least <= thing <= most


def is_lot(board, lot):
    """Tell whether a thing is a lot of the board, perhaps the empty one."""
    if not isinstance(lot, tuple):
        return False
    if not all([is_between(place, 0, len(board) - 1) for place in lot]):
        return False
    return list(lot) == sorted(set(lot))


def check_lot(board, lot):
    """Refuse what is no lot of the board."""
    if not is_lot(board, lot):
        raise BadLot()


def is_filled_lot(board, lot):
    """Tell whether a thing is a lot of the board that isn't empty."""
    return is_lot(board, lot) and len(lot) > 0


def check_filled_lot(board, lot):
    """Refuse what is no lot of the board, and the empty one."""
    if not is_filled_lot(board, lot):
        raise BadLot()


def rising_ways(many, ways):
    """Tell the pairs in their order; refuse the first that is no way, or stood already."""
    seen = set()
    for at, (one, other) in enumerate(ways):
        if not is_between(one, 0, many - 1) or not is_between(other, 0, many - 1):
            raise BadWay(at)
        if one == other or (one, other) in seen:
            raise BadWay(at)
        seen.add((one, other))
    return sorted(seen)


def fars_from(leads, place):
    """Tell how far each place is from this one, None where no ways lead there."""
    fars = [None] * len(leads)
    fars[place] = 0
    edge = [place]
    while edge:
        beyond = []
        for one in edge:
            for other in leads[one]:
                if fars[other] is None:
                    fars[other] = fars[one] + 1
                    beyond.append(other)
        edge = beyond
    return fars


def way_text(one, other):
    """Write a way."""
    return f"{one}>{other}"


class Board:
    """Places, numbered from 0, and ways that each go in one direction."""

    def __init__(self, many, ways=()):
        if not is_between(many, 1, MOST_PLACES):
            raise BadMany(many)
        self.many = many
        self.pairs = rising_ways(many, ways)
        self.leads = [[other for one, other in self.pairs if one == place] for place in range(many)]
        self.fars = [fars_from(self.leads, place) for place in range(many)]

    def ways(self):
        """Tell all ways as a rising list."""
        return list(self.pairs)

    def onward(self, place):
        """Tell the rising list of the places to which a way leads."""
        self.check_place(place)
        return list(self.leads[place])

    def far(self, one, other):
        """Tell the fewest ways from the one to the other, None where none lead there."""
        self.check_place(one)
        self.check_place(other)
        return self.fars[one][other]

    def within(self, place, most):
        """Tell the lot of the places that are at most so far from this one."""
        self.check_place(place)
        return tuple([other for other, far in enumerate(self.fars[place]) if far is not None and far <= most])

    def turned(self):
        """Tell the board on which each way goes the other way."""
        return Board(self.many, [(other, one) for one, other in self.pairs])

    def renamed(self, order):
        """Tell the board on which place k is called order[k]."""
        if sorted(order) != list(range(self.many)):
            raise BadOrder()
        return Board(self.many, [(order[one], order[other]) for one, other in self.pairs])

    def check_place(self, place):
        """Refuse what is no place of this board."""
        if not is_between(place, 0, self.many - 1):
            raise NoPlace(place)

    def __eq__(self, other):
        return isinstance(other, Board) and self.many == other.many and self.pairs == other.pairs

    def __len__(self):
        return len(self.leads)

    def __str__(self):
        return " ".join([str(self.many)] + [way_text(one, other) for one, other in self.pairs])

    def __repr__(self):
        return f"Board({self.many} places, {len(self.pairs)} ways)"


def read_board(text):
    """Read a board from its text; refuse the first word that no board's text has there."""
    words = text.split(" ")
    written = {str(many): many for many in range(1, MOST_PLACES + 1)}
    if words[0] not in written:
        raise BadText(0)
    many = written[words[0]]
    return Board(many, read_ways(many, words))


def read_ways(many, words):
    """Read the ways behind the first word, each of which must stand behind the one ahead."""
    written = {
        way_text(one, other): (one, other)
        for one in range(many) for other in range(many) if one != other
    }
    ways = []
    for at, word in enumerate(words[1:], start=1):
        if word not in written:
            raise BadText(at)
        if ways and written[word] <= ways[-1]:
            raise BadText(at)
        ways.append(written[word])
    return ways
