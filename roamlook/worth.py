"""What triples are worth: tuples of them that the same walks fit, and those that could be left out."""

from roamlook.stories import answering, known, look_story
from roamlook.walks import walk_by


def with_seen(story, seen):
    """Tell the story with other triples."""
    lot, paces, own = story
    return (lot, paces, seen)


def fits_first_alone(board, story, other):
    """Tell a walk that fits the story and not the other, which has the same walks, or None."""
    # A walk that fits misses a triple of the other just where it is in a place that does.
    for beat, (lot, fit) in enumerate(zip(known(board, story), answering(board, other))):
        for place in lot:
            if place not in fit:
                return walk_by(board, story, beat, place)
    return None


def worth_alike(board, story, seen):
    """Tell whether the same walks fit the story's triples and these, or a walk that fits just one of both."""
    look_story(board, story)
    other = with_seen(story, seen)
    look_story(board, other)
    walk = fits_first_alone(board, story, other)
    if walk is None:
        walk = fits_first_alone(board, other, story)
    return ("alike",) if walk is None else ("walk", walk)


def is_needless(board, story, number):
    """Tell whether the same walks fit without the triple that has this number."""
    seen = story[2]
    rest = with_seen(story, seen[:number] + seen[number + 1:])
    # Without it no walk fits less, so one direction is enough.
    return fits_first_alone(board, rest, story) is None


def needless(board, story):
    """Tell the rising list of the numbers of the triples that are needless beside all others."""
    look_story(board, story)
    return [number for number in range(len(story[2])) if is_needless(board, story, number)]


def bare(board, story):
    """Tell the numbers of the triples that are left when each that is needless, from the first on, goes."""
    look_story(board, story)
    seen = story[2]
    left = []
    for number in range(len(seen)):
        still = [seen[other] for other in left] + list(seen[number:])
        if not is_needless(board, with_seen(story, tuple(still)), len(left)):
            left.append(number)
    return left
