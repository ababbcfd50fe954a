"""Deeds: what they are made from, and how they are written and read."""

from roamlook.errors import BadText
from roamlook.looks import look_text, read_look
from roamlook.texts import figures_text, lot_text, read_lot, read_name, read_number, read_pace

FORMS = {
    "put": ("name", "lot", "pace"),
    "pace": ("name", "pace"),
    "drop": ("name",),
    "beat": (),
    "look": ("name", "look", "number"),
    "late": ("name", "number", "look", "number"),
    "wrong": ("number",),
    "right": ("number",),
    "wish": ("name", "name", "number"),
    "unwish": ("name",),
}


def is_deed(deed):
    """Tell whether a thing is a tuple that begins with the word of a deed and has as many things more."""
    if not isinstance(deed, tuple) or len(deed) == 0:
        return False
    # What is no text may be no key either.
    if not isinstance(deed[0], str) or deed[0] not in FORMS:
        return False
    return len(deed) == len(FORMS[deed[0]]) + 1


def part_text(form, part):
    """Write one thing of a deed."""
    if form == "lot":
        return lot_text(part)
    if form == "pace":
        return figures_text(part)
    if form == "look":
        return look_text(part)
    return str(part)


def deed_text(deed):
    """Write a deed."""
    forms = FORMS[deed[0]]
    return " ".join([deed[0]] + [part_text(form, part) for form, part in zip(forms, deed[1:])])


def part_size(form, word):
    """Tell how many words write a thing of this form that begins with this word."""
    if form != "look":
        return 1
    return 3 if word == "near" else 2


def read_part(form, text):
    """Read one thing of a deed; None, or a refusal, where it is not so written."""
    if form == "name":
        return read_name(text)
    if form == "lot":
        return read_lot(text)
    if form == "pace":
        return read_pace(text)
    if form == "look":
        return read_look(text)
    return read_number(text)


def read_parts(forms, words):
    """Read things of these forms from just these words."""
    parts = []
    left = words
    for form in forms:
        size = part_size(form, left[0]) if left else 1
        parts.append(read_part(form, " ".join(left[:size])))
        left = left[size:]
    if left or None in parts:
        raise BadText(0)
    return tuple(parts)


def read_deed(text):
    """Read a deed, whether or not a post would do it."""
    words = text.split(" ")
    if words[0] not in FORMS:
        raise BadText(0)
    return (words[0],) + read_parts(FORMS[words[0]], words[1:])
