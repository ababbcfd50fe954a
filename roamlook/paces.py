"""Paces: how far a step may lead from each place, and the lots behind and ahead of a lot."""

from roamlook.boards import check_lot, is_between
from roamlook.errors import BadPace

MOST_PACE = 7
MOST_BEATS = 12


def is_pace(board, pace):
    """Tell whether a thing is a pace of the board."""
    if not isinstance(pace, tuple) or len(pace) != len(board):
        return False
    return all([is_between(number, 0, MOST_PACE) for number in pace])


def check_pace(board, pace):
    """Refuse what is no pace of the board."""
    if not is_pace(board, pace):
        raise BadPace()


def even(board, number):
    """Tell the pace with this number everywhere."""
    if not is_between(number, 0, MOST_PACE):
        raise BadPace()
    return (number,) * len(board)


def step(board, pace, lot):
    """Tell the lot behind this one: each place to which a step leads from one of it."""
    check_pace(board, pace)
    check_lot(board, lot)
    return tuple(sorted({end for place in lot for end in board.within(place, pace[place])}))


def before(board, pace, lot):
    """Tell the lot ahead of this one: each place from which a step leads into it."""
    check_pace(board, pace)
    check_lot(board, lot)
    return tuple([
        place for place, number in enumerate(pace)
        if any([end in lot for end in board.within(place, number)])
    ])


def least_pace(board, steps):
    """Tell the pace with the least numbers of which all pairs are steps, None where there is none."""
    # All are measured ahead of any answer: a place that is none goes ahead of a step that cannot be.
    fars = [board.far(one, other) for one, other in steps]
    # No board has places that are further apart than MOST_PACE ways, so a step fails for lack of ways alone.
    if None in fars:
        return None
    pace = [0] * len(board)
    for (one, other), far in zip(steps, fars):
        pace[one] = max(pace[one], far)
    return tuple(pace)


def ahead(board, lot, paces):
    """Tell the list of lots: this one, then the one behind by each pace."""
    check_lot(board, lot)
    lots = [lot]
    for pace in paces:
        lots.append(step(board, pace, lots[-1]))
    return lots
