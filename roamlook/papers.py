"""Papers: a walk that shows that a thing may be in a place at a beat, or a shut row of lots that it cannot be."""

from roamlook.boards import is_lot
from roamlook.paces import before, step
from roamlook.stories import answering, back, check_beat, forth, last_beat, look_story, meet
from roamlook.walks import fits, walk_by


def paper(board, story, beat, place):
    """Tell a walk that fits and is there, or else lots that shut the place out."""
    walk = walk_by(board, story, beat, place)
    if walk is not None:
        return ("walk", walk)
    lots = forth(board, story)
    if place not in lots[beat]:
        return ("ahead", lots[:beat + 1])
    return ("behind", back(board, story)[beat:])


def all_have(lots, needed):
    """Tell whether each lot has all places that it needs."""
    return all([place in lot for lot, places in zip(lots, needed) for place in places])


def shut_ahead(board, story, beat, lots):
    """Tell whether no walk that answers all triples up to this beat leaves the lots."""
    if len(lots) != beat + 1:
        return False
    fitting = answering(board, story)
    needed = [meet(story[0], fitting[0])]
    for pace, lot, fit in zip(story[1], lots[:-1], fitting[1:]):
        needed.append(meet(step(board, pace, lot), fit))
    return all_have(lots, needed)


def shut_behind(board, story, beat, lots):
    """Tell whether each place from which all triples from this beat on can be answered is in its lot."""
    if len(lots) != last_beat(story) - beat + 1:
        return False
    fitting = answering(board, story)
    needed = []
    for pace, lot, fit in zip(story[1][beat:], lots[1:], fitting[beat:]):
        needed.append(meet(before(board, pace, lot), fit))
    needed.append(fitting[-1])
    return all_have(lots, needed)


def holds(board, story, beat, place, paper):
    """Tell whether this is a paper of the place at the beat."""
    look_story(board, story)
    check_beat(story, beat)
    board.check_place(place)
    word, told = paper
    if word == "walk":
        return fits(board, story, told) and told[beat] == place
    if not all([is_lot(board, lot) for lot in told]):
        return False
    if word == "ahead":
        return shut_ahead(board, story, beat, told) and place not in told[-1]
    if word == "behind":
        return shut_behind(board, story, beat, told) and place not in told[0]
    return False
