"""Looks: what is asked of the place where a thing is, the answers, and how looks are written."""

from roamlook.boards import MOST_PLACES, Board, is_between, is_filled_lot, is_lot
from roamlook.errors import BadLook, BadText
from roamlook.texts import FIGURES, lot_text, read_lot

MOST_NEAR = 7


def are_parts(board, lots):
    """Tell whether a thing is a tuple of lots, none empty, that have together each place just once."""
    if not isinstance(lots, tuple):
        return False
    if not all([is_filled_lot(board, lot) for lot in lots]):
        return False
    return sorted([place for lot in lots for place in lot]) == list(range(len(board)))


def is_look(board, look):
    """Tell whether a thing is a look of the board."""
    if not isinstance(look, tuple) or len(look) == 0:
        return False
    if look[0] == "in":
        return len(look) == 2 and is_lot(board, look[1])
    if look[0] == "parts":
        return len(look) == 2 and are_parts(board, look[1])
    if look[0] == "near":
        return len(look) == 3 and is_between(look[1], 0, len(board) - 1) and is_between(look[2], 0, MOST_NEAR)
    return False


def near_answer(board, place, goal, most):
    """Tell how far the goal is from the place, most and one where it is further or no ways lead there."""
    far = board.far(place, goal)
    return most + 1 if far is None else min(far, most + 1)


def answers(board, look):
    """Tell the answers of all places; refuse what is no look of the board."""
    if not is_look(board, look):
        raise BadLook()
    places = list(range(len(board)))
    if look[0] == "in":
        return tuple([1 if place in look[1] else 0 for place in places])
    if look[0] == "parts":
        return tuple([number for place in places for number, lot in enumerate(look[1]) if place in lot])
    return tuple([near_answer(board, place, look[1], look[2]) for place in places])


def lot_of(board, look, answer):
    """Tell the lot of the places that give this answer."""
    return tuple([place for place, given in enumerate(answers(board, look)) if given == answer])


def look_text(look):
    """Write a look."""
    if look[0] == "in":
        return f"in {lot_text(look[1])}"
    if look[0] == "parts":
        lots = "|".join([lot_text(lot) for lot in look[1]])
        return f"parts {lots}"
    return f"near {look[1]} {look[2]}"


def look_of_words(words):
    """Tell the look that the words write; None stands for each part that is not so written."""
    if len(words) == 2 and words[0] == "in":
        return ("in", read_lot(words[1]))
    if len(words) == 2 and words[0] == "parts":
        return ("parts", tuple([read_lot(lot) for lot in words[1].split("|")]))
    if len(words) == 3 and words[0] == "near":
        return ("near", FIGURES.get(words[1]), FIGURES.get(words[2]))
    return None


def read_look(text):
    """Read a look that some board has; refuse any other text."""
    look = look_of_words(text.split(" "))
    # How many places the board has is not written, and whether parts are a look depends on it.
    if not any([is_look(Board(many), look) for many in range(1, MOST_PLACES + 1)]):
        raise BadText(0)
    return look
