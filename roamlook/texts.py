"""Texts of what stands within looks and deeds: numbers from 0 to 7, and lots."""

FIGURES = {"0": 0, "1": 1, "2": 2, "3": 3, "4": 4, "5": 5, "6": 6, "7": 7}


def figures_text(numbers):
    """Write numbers with a comma between."""
    return ",".join([str(number) for number in numbers])


def read_figures(text):
    """Read numbers from 0 to 7 with a comma between; None where they are not so written."""
    words = text.split(",")
    if not all([word in FIGURES for word in words]):
        return None
    return tuple([FIGURES[word] for word in words])


def lot_text(lot):
    """Write a lot."""
    return figures_text(lot) if lot else "-"


def read_lot(text):
    """Read a lot such as some board has; None where it is not so written."""
    if text == "-":
        return ()
    places = read_figures(text)
    if places is None or list(places) != sorted(set(places)):
        return None
    return places
