"""Walks of a story that fit: how many there are, their numbers, and the first ones. None of it lists all walks."""

from roamlook.boards import is_between, is_number
from roamlook.errors import NoNumber
from roamlook.looks import answers
from roamlook.stories import answering, check_beat, last_beat, look_story, meet


def next_places(board, story, walk):
    """Tell the lot of the places at which a walk can be that has begun so."""
    lot, paces, seen = story
    if len(walk) == 0:
        return lot
    place = walk[-1]
    pace = paces[len(walk) - 1]
    return board.within(place, pace[place])


def is_walk(board, story, walk):
    """Tell whether a thing is a walk of the story, whatever it answers."""
    if not isinstance(walk, tuple) or len(walk) != last_beat(story) + 1:
        return False
    for beat, place in enumerate(walk):
        if not is_number(place) or place not in next_places(board, story, walk[:beat]):
            return False
    return True


def missed(board, story, walk):
    """Tell the rising list of the numbers of the triples that a walk misses."""
    return [
        number for number, (beat, look, answer) in enumerate(story[2])
        if answers(board, look)[walk[beat]] != answer
    ]


def onward_counts(board, paces, lots):
    """Tell for each beat and place how many walks go on from there, each beat in its lot."""
    places = list(range(len(board)))
    counts = [[1 if place in lots[-1] else 0 for place in places]]
    for pace, lot in zip(paces[::-1], lots[:-1][::-1]):
        later = counts[-1]
        counts.append([
            sum([later[end] for end in board.within(place, pace[place])]) if place in lot else 0
            for place in places
        ])
    return counts[::-1]


def fitting_counts(board, story):
    """Tell for each beat and place how many walks go on from there that answer all triples."""
    return onward_counts(board, story[1], answering(board, story))


def count_all(story, counts):
    """Tell how many walks there are in all."""
    return sum([counts[0][place] for place in story[0]])


def pick(places, row, number):
    """Tell the place that the walk with this number takes, and its number among the walks there."""
    at = 0
    while number >= row[places[at]]:
        number -= row[places[at]]
        at += 1
    return places[at], number


def counted_walk(board, story, counts, number):
    """Tell the walk with this number, which must be one that is counted."""
    walk = ()
    for row in counts:
        place, number = pick(next_places(board, story, walk), row, number)
        walk = walk + (place,)
    return walk


def fits(board, story, walk):
    """Tell whether a tuple of numbers is a walk that fits."""
    look_story(board, story)
    return is_walk(board, story, walk) and len(missed(board, story, walk)) == 0


def many_walks(board, story):
    """Tell how many walks fit."""
    look_story(board, story)
    return count_all(story, fitting_counts(board, story))


def walk_at(board, story, *, number=0):
    """Tell the walk that has this number among those that fit."""
    look_story(board, story)
    counts = fitting_counts(board, story)
    if not is_between(number, 0, count_all(story, counts) - 1):
        raise NoNumber(number)
    return counted_walk(board, story, counts, number)


def number_of(board, story, walk):
    """Tell the number of a walk, None where it doesn't fit."""
    if not fits(board, story, walk):
        return None
    number = 0
    for beat, (place, row) in enumerate(zip(walk, fitting_counts(board, story))):
        lesser = [other for other in next_places(board, story, walk[:beat]) if other < place]
        number += sum([row[other] for other in lesser])
    return number


def walk_by(board, story, beat, place):
    """Tell the first walk that fits and is in this place at this beat, or None."""
    look_story(board, story)
    check_beat(story, beat)
    board.check_place(place)
    lots = answering(board, story)
    lots[beat] = meet(lots[beat], (place,))
    counts = onward_counts(board, story[1], lots)
    if count_all(story, counts) == 0:
        return None
    return counted_walk(board, story, counts, 0)
