"""Stories for the tests, stories that are none, and plain reckonings over all walks of small ones."""

import random

from roamlook.boards import Board

from look_samples import no_looks, plain_answer, sample_looks
from samples import all_pairs, no_lots, no_paces, plain_steps


def chance_lot(chance, many):
    return tuple(sorted(chance.sample(range(many), chance.randint(1, many))))


def chance_pace(chance, many):
    return tuple(chance.choice((0, 0, 1, 1, 1, 2, 7)) for place in range(many))


def chance_look(chance, many):
    word = chance.choice(("in", "parts", "near"))
    return chance.choice([look for look in LOOKS[many] if look[0] == word])


LOOKS = {many: sample_looks(many) for many in range(1, 9)}


def chance_triple(chance, many, ways, last, walk=None):
    """A triple, that a walk answers where one is told, else with any answer, at times one that no place gives."""
    beat = chance.randint(0, last)
    look = chance_look(chance, many)
    place = walk[beat] if walk else chance.randrange(many)
    answer = plain_answer(ways, look, place)
    return (beat, look, chance.choice((answer, answer, answer, -1, 9)) if walk is None else answer)


def chance_walk(chance, many, ways, lot, paces):
    walk = [chance.choice(lot)]
    for pace in paces:
        ends = [end for start, end in plain_steps(many, ways, pace) if start == walk[-1]]
        walk.append(chance.choice(sorted(ends)))
    return tuple(walk)


def chance_ways(chance, many):
    pairs = all_pairs(many)
    return chance.sample(pairs, min(len(pairs), chance.randint(0, 2 * many)))


def chance_story(chance, many, ways, last, count, wrong):
    """A story whose triples one walk answers, but for so many wrong ones."""
    lot = chance_lot(chance, many)
    paces = tuple(chance_pace(chance, many) for beat in range(last))
    walk = chance_walk(chance, many, ways, lot, paces)
    seen = [chance_triple(chance, many, ways, last, walk) for number in range(count - wrong)]
    seen.extend(chance_triple(chance, many, ways, last) for number in range(wrong))
    if len(seen) > 1 and chance.random() < 0.3:
        seen[0] = seen[-1]
    chance.shuffle(seen)
    return (lot, paces, tuple(seen))


SIZES = ((1, 12), (2, 8), (2, 5), (3, 5), (3, 3), (4, 4), (4, 2), (5, 3), (6, 2), (7, 2), (8, 2), (8, 1), (3, 0), (8, 0))


def small_stories(turns=6, seed=1):
    """Shapes of boards with stories that have few enough walks to be listed."""
    chance = random.Random(seed)
    told = []
    for turn in range(turns):
        for many, last in SIZES:
            ways = chance_ways(chance, many)
            count = chance.choice((0, 1, 2, 3, 4, 5, 7, 24))
            wrong = min(count, chance.choice((0, 0, 0, 1, 2, 5)))
            told.append(((many, ways), chance_story(chance, many, ways, last, count, wrong)))
    return told


def great_stories(turns=3, seed=2):
    """Stories with 12 paces, up to 24 triples and far too many walks to be listed."""
    chance = random.Random(seed)
    whole = tuple(range(8))
    ring = [(place, (place + 1) % 8) for place in whole] + [(place, (place - 1) % 8) for place in whole]
    told = [((8, all_pairs(8)), (whole, ((7,) * 8,) * 12, ())), ((8, ring), (whole, ((2,) * 8,) * 12, ()))]
    for turn in range(turns):
        for ways in (ring, all_pairs(8)):
            paces = tuple(tuple(chance.choice((1, 2, 3)) for place in whole) for beat in range(12))
            walk = chance_walk(chance, 8, ways, whole, paces)
            seen = []
            for number in range(24):
                beat = chance.randint(0, 12)
                look = ("in", tuple(sorted({walk[beat]} | set(chance.sample(whole, 6)))))
                seen.append((beat, look, 1))
            told.append(((8, ways), (whole, paces, tuple(seen))))
    return told


def all_walks(shape, story):
    """All walks of a story, rising, whatever they answer."""
    many, ways = shape
    lot, paces, seen = story
    walks = [(place,) for place in lot]
    for pace in paces:
        steps = sorted(plain_steps(many, ways, pace))
        walks = [walk + (end,) for walk in walks for start, end in steps if start == walk[-1]]
    return walks


def plain_missed(shape, story, walk):
    """The numbers of the triples that a walk misses."""
    return [
        number for number, (beat, look, answer) in enumerate(story[2])
        if plain_answer(shape[1], look, walk[beat]) != answer
    ]


def plain_fitting(shape, story):
    return [walk for walk in all_walks(shape, story) if not plain_missed(shape, story, walk)]


def plain_lot(walks, beat):
    return tuple(sorted({walk[beat] for walk in walks}))


def plain_known(shape, story):
    walks = plain_fitting(shape, story)
    return [plain_lot(walks, beat) for beat in range(len(story[1]) + 1)]


def plain_forth(shape, story):
    """Each beat by a story that ends there."""
    lot, paces, seen = story
    lots = []
    for beat in range(len(paces) + 1):
        ended = (lot, paces[:beat], tuple(triple for triple in seen if triple[0] <= beat))
        lots.append(plain_lot(plain_fitting(shape, ended), beat))
    return lots


def plain_back(shape, story):
    """Each beat by a story that begins there, anywhere."""
    lot, paces, seen = story
    lots = []
    for beat in range(len(paces) + 1):
        later = tuple((at - beat, look, answer) for at, look, answer in seen if at >= beat)
        begun = (tuple(range(shape[0])), paces[beat:], later)
        lots.append(plain_lot(plain_fitting(shape, begun), 0))
    return lots


def wrong_parts(many):
    """For each of the three parts of a story with three paces some that are wrong."""
    good = (1,) * many
    lots = [()] + no_lots(many)
    paces = [(pace,) for pace in no_paces(many)] + [(good, pace, good) for pace in no_paces(many)]
    paces += [(good,) * 13, (good,) * 20]
    triple = (0, ("in", ()), 0)
    triples = [(beat, ("in", ()), 0) for beat in (-1, 4, 5, 13, -999999999999, 999999999999)]
    triples += [(0, look, 0) for look in no_looks(many)]
    triples += [(), (0,), (0, ("in", ())), (0, ("in", ()), 0, 0)]
    seen = [(wrong,) for wrong in triples] + [(triple, wrong) for wrong in triples]
    seen += [(triple,) * 25, (triple,) * 40, (triple,) * 23 + ((4, ("in", ()), 0),)]
    return lots, paces, seen


def no_stories(many):
    """Pairs of a story that is none for a board with so many places and the number of the part that is refused."""
    lots, paces, seen = wrong_parts(many)
    lot, good_paces, good_seen = (0,), ((1,) * many,) * 3, ((0, ("in", ()), 0),)
    told = [((wrong, good_paces, good_seen), 0) for wrong in lots]
    told += [((lot, wrong, good_seen), 1) for wrong in paces]
    told += [((lot, good_paces, wrong), 2) for wrong in seen]
    # Where several are wrong the first goes.
    told += [((lots[0], paces[0], seen[0]), 0), ((lots[-1], good_paces, seen[0]), 0), ((lots[1], paces[-1], ()), 0)]
    told += [((lot, paces[0], seen[0]), 1), ((lot, paces[-1], seen[-1]), 1)]
    return told


def board_and_story(told):
    (many, ways), story = told
    return Board(many, ways), story
