"""Texts of what stands within looks and deeds: numbers, names, lots and paces."""

FIGURES = {"0": 0, "1": 1, "2": 2, "3": 3, "4": 4, "5": 5, "6": 6, "7": 7}
MOST_FIGURES = 9
MOST_LETTERS = 12
MOST_NUMBERS = 8


def figures_text(numbers):
    """Write numbers with a comma between."""
    return ",".join([str(number) for number in numbers])


def read_figures(text):
    """Read numbers from 0 to 7 with a comma between; None where they are not so written."""
    words = text.split(",")
    if not all([word in FIGURES for word in words]):
        return None
    return tuple([FIGURES[word] for word in words])


def lot_text(lot):
    """Write a lot."""
    return figures_text(lot) if lot else "-"


def read_lot(text):
    """Read a lot such as some board has; None where it is not so written."""
    if text == "-":
        return ()
    places = read_figures(text)
    if places is None or list(places) != sorted(set(places)):
        return None
    return places


def read_pace(text):
    """Read a pace such as some board has; None where it is not so written."""
    numbers = read_figures(text)
    if numbers is None or len(numbers) > MOST_NUMBERS:
        return None
    return numbers


def read_number(text):
    """Read a number of few enough figures; None where it is not so written."""
    figures = text[1:] if text.startswith("-") else text
    if not figures.isascii() or not figures.isdigit() or len(figures) > MOST_FIGURES:
        return None
    number = int(text)
    # Written again it has no needless noughts, and 0 no sign.
    return number if str(number) == text else None


def is_name(thing, most):
    """Tell whether a thing is a text of 1 to so many small letters."""
    if not isinstance(thing, str) or len(thing) > most:
        return False
    return thing.isascii() and thing.isalpha() and thing.islower()


def read_name(text):
    """Read a name; None where it is not so written."""
    return text if is_name(text, MOST_LETTERS) else None
