"""Looks for the tests, looks that are none, and plain reckonings of answers."""

import itertools
import random

from samples import FAR_NUMBERS, all_lots, few_lots, no_lots, plain_far


def all_parts(many):
    """Every way to part the places of a board into lots, in every order of the lots."""
    partings = [[]]
    for place in range(many):
        grown = []
        for parting in partings:
            grown.append(parting + [(place,)])
            for at, lot in enumerate(parting):
                grown.append(parting[:at] + [lot + (place,)] + parting[at + 1:])
        partings = grown
    return [order for parting in partings for order in itertools.permutations(parting)]


def few_parts(many):
    if many <= 4:
        return all_parts(many)
    chance = random.Random(many)
    partings = [(tuple(range(many)),), tuple((place,) for place in range(many))[::-1]]
    for turn in range(6):
        numbers = [chance.randrange(many) for place in range(many)]
        lots = [tuple(place for place in range(many) if numbers[place] == number) for number in set(numbers)]
        partings.append(tuple(chance.sample(lots, len(lots))))
    return partings


def sample_looks(many):
    """Looks of all three kinds of a board with so many places."""
    looks = [("in", lot) for lot in few_lots(many)]
    looks.extend(("parts", lots) for lots in few_parts(many))
    looks.extend(("near", place, most) for place in range(many) for most in range(8))
    return looks


def every_look():
    """All looks that some board has, but for some of the many partings of more than five places."""
    looks = {("in", lot) for lot in all_lots(8)}
    looks.update(("near", place, most) for place in range(8) for most in range(8))
    for many in range(1, 6):
        looks.update(("parts", lots) for lots in all_parts(many))
    for many in range(6, 9):
        looks.update(("parts", lots) for lots in few_parts(many))
    return sorted(looks)


def no_looks(many):
    """Tuples that begin with a text and are no looks of a board with so many places."""
    whole = tuple(range(many))
    bad = [
        ("",), ("in",), ("parts",), ("near",), ("near", 0), ("near", 0, 1, 2), ("in", (0,), (0,)),
        ("in", (0,), 1), ("parts", (whole,), (whole,)), ("In", (0,)), ("in ", (0,)), ("", (0,)), ("at", (0,)),
        ("near ", 0, 1), ("far", 0, 1), ("part", (whole,)), ("out", whole), ("x", 1, 2, 3),
    ]
    bad.extend(("in", lot) for lot in no_lots(many))
    bad.extend(("near", place, 1) for place in (-1, many, many + 1) + FAR_NUMBERS)
    bad.extend(("near", 0, most) for most in (-1, 8) + FAR_NUMBERS)
    bad.extend(("near", place, most) for place in (-1, many) for most in (-1, 8))
    bad.extend(("parts", lots) for lots in no_parts(many))
    return bad


def no_parts(many):
    """Tuples of lots that do not part the places of a board."""
    whole = tuple(range(many))
    bad = [(), ((),), (whole, ()), ((), whole), (whole, whole), (whole, (0,)), ((many - 1,), whole)]
    bad.extend([(whole[1:],), (whole[:-1],), (whole, (many,)), (whole + (many,),), ((-1,) + whole,), ((-1,), whole)])
    bad.extend((whole[:place], (), whole[place:]) for place in range(1, many))
    bad.extend((whole[:place], whole[place - 1:]) for place in range(1, many))
    bad.extend((whole[:place], whole[place + 1:]) for place in range(1, many - 1))
    bad.extend((lot,) for lot in no_lots(many))
    if many > 1:
        bad.append((whole[::-1],))
        bad.append(((1, 0),) + tuple((place,) for place in range(2, many)))
    return bad


def plain_answer(ways, look, place):
    """The answer of a look at a place of the board with these ways, by the words of point 5."""
    if look[0] == "in":
        return int(place in look[1])
    if look[0] == "parts":
        numbers = [number for number, lot in enumerate(look[1]) if place in lot]
        assert len(numbers) == 1
        return numbers[0]
    far = plain_far(ways, place, look[1])
    return far if far is not None and far <= look[2] else look[2] + 1
