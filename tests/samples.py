"""Boards, lots and paces for the tests, and plain reckonings to hold the program against."""

import itertools
import random

from roamlook.boards import Board

FAR_NUMBERS = (-999999999999, -1000, -9, 9, 300, 999999999999)


def all_pairs(many):
    return [(one, other) for one in range(many) for other in range(many) if one != other]


def all_lots(many):
    return [lot for size in range(many + 1) for lot in itertools.combinations(range(many), size)]


def shaped_ways(many):
    line = [(place, place + 1) for place in range(many - 1)]
    ring = line + [(many - 1, 0)] if many > 1 else []
    star = [(0, place) for place in range(1, many)]
    return [[], line, ring, star, all_pairs(many)]


def sample_shapes():
    """Every board of one to three places, and shaped and chance ones of up to eight."""
    shapes = []
    for many in (1, 2, 3):
        pairs = all_pairs(many)
        for size in range(len(pairs) + 1):
            shapes.extend((many, list(ways)) for ways in itertools.combinations(pairs, size))
    chance = random.Random(3)
    for many in range(4, 9):
        shapes.extend((many, ways) for ways in shaped_ways(many))
        for size in (many // 2, many, many + 2, 2 * many):
            shapes.append((many, chance.sample(all_pairs(many), size)))
    return shapes


def few_shapes():
    """Some boards of each count of places, for what is slow over all of them."""
    chance = random.Random(4)
    shapes = []
    for many in range(1, 9):
        shapes.extend((many, ways) for ways in shaped_ways(many))
        if many > 2:
            shapes.append((many, chance.sample(all_pairs(many), many + 1)))
    return shapes


def plain_far(ways, one, other):
    """How far the other is from the one, by going all ways at once, beat by beat."""
    here = {one}
    for count in range(9):
        if other in here:
            return count
        here = {end for start, end in ways if start in here}
    return None


def plain_fars(many, ways):
    return [[plain_far(ways, one, other) for other in range(many)] for one in range(many)]


def plain_steps(many, ways, pace):
    """All pairs of places of which this pace has a step."""
    fars = plain_fars(many, ways)
    return {
        (one, other) for one in range(many) for other in range(many)
        if fars[one][other] is not None and fars[one][other] <= pace[one]
    }


def sample_paces(many, count=4):
    """Paces that are even, and some that are not."""
    chance = random.Random(many)
    uneven = [tuple(chance.randint(0, 7) for place in range(many)) for turn in range(count)]
    slow = [tuple(chance.randint(0, 2) for place in range(many)) for turn in range(count)]
    return [(0,) * many, (1,) * many, (2,) * many, (7,) * many] + uneven + slow


def few_lots(many):
    """None, all, and others: every lot of a small board, some of a large one."""
    lots = all_lots(many)
    if many <= 4:
        return lots
    return [(), tuple(range(many))] + random.Random(many).sample(lots, 12)


def no_paces(many):
    """Tuples that are no paces of a board with so many places."""
    good = (1,) * many
    bad = [good[:-1], good + (1,)]
    for place in range(many):
        for number in (-1, 8) + FAR_NUMBERS:
            bad.append(good[:place] + (number,) + good[place + 1:])
    return bad


def no_lots(many):
    """Tuples that are no lots of a board with so many places."""
    whole = tuple(range(many))
    bad = [(-1,), (many,), (-1,) + whole, whole + (many,), (0, 0), whole + (many - 1,)]
    bad.extend((number,) for number in FAR_NUMBERS)
    if many > 1:
        bad.extend([(1, 0), whole[::-1], (0,) + whole, (0, 1, 1), (0, 1, 0)])
    return bad


def board_of(shape):
    many, ways = shape
    return Board(many, ways)
