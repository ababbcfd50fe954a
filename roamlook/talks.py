"""Talks: hands that look by turns and send each other letters, and what each has heard."""

from roamlook.boards import is_between, is_number
from roamlook.errors import BadBeat, BadLost, BadTalk, NoHand
from roamlook.paces import MOST_BEATS

MOST_TALKERS = 4
MOST_DELAY = 9
MOST_TALK = 6


def are_delays(delays):
    """Tell whether a thing is a tuple with the delays of each hand to each, 0 to itself."""
    if not isinstance(delays, tuple) or not is_between(len(delays), 2, MOST_TALKERS):
        return False
    return all([is_delay_row(row, hand, len(delays)) for hand, row in enumerate(delays)])


def is_delay_row(row, hand, many):
    """Tell whether a thing is a tuple with the delays of this hand to each of so many."""
    if not isinstance(row, tuple) or len(row) != many:
        return False
    return all([
        is_between(delay, 0, 0) if other == hand else is_between(delay, 1, MOST_DELAY)
        for other, delay in enumerate(row)
    ])


def is_talk_look(row, many):
    """Tell whether a thing is a triple of a beat, one of so many hands, and what may be a look of some board."""
    if not isinstance(row, tuple) or len(row) != 3:
        return False
    beat, hand, look = row
    if not is_between(beat, 0, MOST_BEATS) or not is_between(hand, 0, many - 1):
        return False
    return isinstance(look, tuple) and len(look) > 0 and isinstance(look[0], str)


def are_talk_looks(looks, many):
    """Tell whether a thing has so many looks as a talk may have, none ahead of the beat of the one ahead."""
    if not isinstance(looks, (list, tuple)) or len(looks) > MOST_TALK:
        return False
    if not all([is_talk_look(row, many) for row in looks]):
        return False
    beats = [row[0] for row in looks]
    return beats == sorted(beats)


class Talk:
    """Hands, how long letters go from each to each, and the looks that they make."""

    def __init__(self, delays, looks):
        if not are_delays(delays):
            raise BadTalk(0)
        if not are_talk_looks(looks, len(delays)):
            raise BadTalk(1)
        self.delays = delays
        self.rows = list(looks)

    def hands(self):
        """Tell how many hands there are."""
        return len(self.delays)

    def looks(self):
        """Tell the looks, each (beat, hand, look), by their numbers."""
        return list(self.rows)

    def letters(self):
        """Tell all letters, each (number of the look, hand to which it goes), rising."""
        return [
            (number, other) for number, row in enumerate(self.rows)
            for other in range(self.hands()) if other != row[1]
        ]

    def comes(self, letter):
        """Tell the beat at which a letter comes where it isn't lost."""
        if letter not in self.letters():
            raise BadLost()
        number, other = letter
        return self.arrival(number, other)

    def heard(self, hand, beat, *, lost=()):
        """Tell the rising list of the numbers of the looks that a hand has heard by a beat, behind its looks."""
        self.check_hand(hand)
        if not is_number(beat) or beat < 0:
            raise BadBeat(beat)
        self.check_lost(lost)
        own = [number for number, row in enumerate(self.rows) if row[1] == hand and row[0] <= beat]
        told = [number for letter, content in self.came(hand, beat, lost) for number in content]
        return sorted(set(own + told))

    def arrival(self, number, other):
        """Tell the beat at which the letter of this look comes to the other hand."""
        beat, hand, look = self.rows[number]
        return beat + self.delays[hand][other]

    def check_hand(self, hand):
        """Refuse a hand that isn't there."""
        if not is_between(hand, 0, self.hands() - 1):
            raise NoHand(hand)

    def check_lost(self, lost):
        """Refuse what is no rising tuple of letters, each once."""
        letters = self.letters()
        if not isinstance(lost, tuple) or not all([letter in letters for letter in lost]):
            raise BadLost()
        if list(lost) != sorted(set(lost)):
            raise BadLost()

    def came(self, hand, beat, lost):
        """Tell the letters that have come to a hand by a beat, each with the numbers of the looks in it."""
        contents = self.contents(lost)
        return [
            ((number, other), contents[number]) for number, other in self.letters()
            if other == hand and (number, other) not in lost and self.arrival(number, other) <= beat
        ]

    def contents(self, lost):
        """Tell for each look the numbers, rising, of the looks in the letters that are sent behind it."""
        told = []
        for number, (beat, hand, look) in enumerate(self.rows):
            heard = [other for other in range(number + 1) if self.rows[other][1] == hand]
            # No letter comes at the beat at which it is sent, so all that came are of lesser numbers.
            for other, content in enumerate(list(told)):
                if self.rows[other][1] != hand and (other, hand) not in lost and self.arrival(other, hand) <= beat:
                    heard.extend(content)
            told.append(tuple(sorted(set(heard))))
        return told
