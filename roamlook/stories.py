"""Stories: where a thing begins, how it moves, what was seen of it, and where it may be at each beat."""

from roamlook.boards import is_between, is_filled_lot, is_number
from roamlook.errors import BadBeat, BadStory
from roamlook.looks import is_look, lot_of
from roamlook.paces import MOST_BEATS, before, is_pace, step

MOST_TRIPLES = 24


def are_paces(board, paces):
    """Tell whether a thing is a tuple of so many paces as a story may have."""
    if not isinstance(paces, tuple) or len(paces) > MOST_BEATS:
        return False
    return all([is_pace(board, pace) for pace in paces])


def is_triple(board, last, triple):
    """Tell whether a thing is a triple (beat, look, answer) of a story with this last beat."""
    if not isinstance(triple, tuple) or len(triple) != 3:
        return False
    beat, look, answer = triple
    return is_between(beat, 0, last) and is_look(board, look) and is_number(answer)


def are_triples(board, last, seen):
    """Tell whether a thing is a tuple of so many triples as a story may have."""
    if not isinstance(seen, tuple) or len(seen) > MOST_TRIPLES:
        return False
    return all([is_triple(board, last, triple) for triple in seen])


def look_story(board, story):
    """Refuse the first of the three parts that is wrong for the board."""
    lot, paces, seen = story
    if not is_filled_lot(board, lot):
        raise BadStory(0)
    if not are_paces(board, paces):
        raise BadStory(1)
    if not are_triples(board, len(paces), seen):
        raise BadStory(2)


def last_beat(story):
    """Tell the last beat of a story."""
    return len(story[1])


def check_beat(story, beat):
    """Refuse a beat that the story doesn't have."""
    if not is_between(beat, 0, last_beat(story)):
        raise BadBeat(beat)


def meet(one, other):
    """Tell the lot of the places that are in both lots."""
    return tuple([place for place in one if place in other])


def answering(board, story):
    """Tell for each beat the lot of the places that answer all triples of it."""
    lots = [tuple(range(len(board)))] * (last_beat(story) + 1)
    for beat, look, answer in story[2]:
        lots[beat] = meet(lots[beat], lot_of(board, look, answer))
    return lots


def next_lot(board, story, fitting, lots):
    """Tell the lot forth that comes behind these, by the lots that answer the triples of each beat."""
    beat = len(lots)
    if beat == 0:
        return meet(story[0], fitting[0])
    return meet(step(board, story[1][beat - 1], lots[-1]), fitting[beat])


def forth(board, story):
    """Tell for each beat where a walk can be that answers all triples up to this beat."""
    look_story(board, story)
    fitting = answering(board, story)
    lots = []
    while len(lots) <= last_beat(story):
        lots.append(next_lot(board, story, fitting, lots))
    return lots


def back(board, story):
    """Tell for each beat from where a walk can answer all triples from this beat on."""
    look_story(board, story)
    fitting = answering(board, story)[::-1]
    lots = [fitting[0]]
    for pace, fit in zip(story[1][::-1], fitting[1:]):
        lots.append(meet(before(board, pace, lots[-1]), fit))
    return lots[::-1]


def known(board, story):
    """Tell for each beat where walks are that fit."""
    return [meet(one, other) for one, other in zip(forth(board, story), back(board, story))]
