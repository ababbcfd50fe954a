"""Worlds of a talk: which answers and lost letters there may be, which of them a hand cannot tell apart."""

from roamlook.boards import check_filled_lot, is_between, is_lot, is_number
from roamlook.errors import BadBeat, BadCount, BadPace, BadSaying, BadWorld, TooMany
from roamlook.looks import answers
from roamlook.paces import step
from roamlook.stories import are_paces

MOST_WORLDS = 3000
MOST_LOST = 2
MOST_DEEP = 6


def loss_sets(letters, most):
    """Tell all rising tuples of at most so many of the letters, rising."""
    sets = [()]
    longest = [()]
    for count in range(most):
        longest = [lost + (letter,) for lost in longest for letter in letters if lost == () or lost[-1] < letter]
        sets.extend(longest)
    return sorted(sets)


def narrowed_lots(lots, given):
    """Tell the answers with that of one more look, each with the lot of the places at which they can be given."""
    longer = {}
    for told, lot in lots.items():
        for place in lot:
            key = told + (given[place],)
            longer[key] = longer.get(key, ()) + (place,)
    return longer


def moved_lots(board, pace, lots):
    """Tell for the same answers the lots behind a step."""
    # Far fewer lots than answers are unlike.
    ends = {lot: step(board, pace, lot) for lot in sorted({lots[told] for told in lots})}
    return {told: ends[lot] for told, lot in lots.items()}


def is_plain(thing):
    """Tell whether a thing is made of numbers and tuples alone."""
    if isinstance(thing, tuple):
        return all([is_plain(part) for part in thing])
    return is_number(thing)


class Worlds:
    """All worlds of a talk for a beginning and paces, with at most so many letters lost."""

    def __init__(self, board, lot, paces, talk, *, lost=1):
        check_filled_lot(board, lot)
        if not are_paces(board, paces):
            raise BadPace()
        self.ground = board
        self.begin = lot
        self.paces = paces
        self.talk = talk
        self.given = [answers(board, look) for beat, hand, look in talk.looks()]
        for beat, hand, look in talk.looks():
            self.check_beat(beat)
        if not is_between(lost, 0, MOST_LOST):
            raise BadCount(lost)
        self.losses = loss_sets(talk.letters(), lost)
        told = self.answer_lots(list(range(len(self.given))), len(paces))
        self.rows = [(one, letters) for one in sorted(told) for letters in self.losses]
        self.numbers = {world: number for number, world in enumerate(self.rows)}
        # What is asked of one hand and beat, or of one saying, is often asked for many worlds.
        self.sights = {}
        self.lots_sure = {}
        self.asked = None
        self.truths = []

    def worlds(self):
        """Tell the rising list of all worlds."""
        return list(self.rows)

    def alike(self, hand, beat, world):
        """Tell the rising list of the worlds that are alike to the hand at the beat."""
        self.talk.check_hand(hand)
        self.check_beat(beat)
        return [self.rows[number] for number in self.alike_numbers(hand, beat, self.number_of(world))]

    def so(self, beat, world, saying):
        """Tell whether a saying is so in a world at a beat."""
        self.check_beat(beat)
        number = self.number_of(world)
        self.check_saying(saying)
        return self.judged(beat, saying)[number]

    def other(self, hand, beat, world, saying):
        """Tell the first world alike to the hand in which the saying isn't so, or None."""
        self.talk.check_hand(hand)
        self.check_beat(beat)
        own = self.number_of(world)
        self.check_saying(saying)
        truths = self.judged(beat, saying)
        for number in self.alike_numbers(hand, beat, own):
            if not truths[number]:
                return self.rows[number]
        return None

    def check_beat(self, beat):
        """Refuse a beat beyond the last one."""
        if not is_between(beat, 0, len(self.paces)):
            raise BadBeat(beat)

    def number_of(self, world):
        """Tell the number of a world; refuse what is none of these."""
        if not is_plain(world) or world not in self.numbers:
            raise BadWorld()
        return self.numbers[world]

    def check_saying(self, saying):
        """Refuse what is no saying for this talk and board."""
        if not self.is_saying(saying, MOST_DEEP):
            raise BadSaying()

    def is_saying(self, saying, deep):
        """Tell whether a thing is a saying, at most so deep."""
        if deep == 0 or not isinstance(saying, tuple) or len(saying) == 0:
            return False
        word = saying[0]
        if word == "not":
            return len(saying) == 2 and self.is_saying(saying[1], deep - 1)
        if len(saying) != 3:
            return False
        one, other = saying[1:]
        if word == "answer":
            return self.is_look_number(one) and is_number(other)
        if word == "heard":
            return self.is_hand(one) and self.is_look_number(other)
        if word == "sure":
            return self.is_hand(one) and is_lot(self.ground, other)
        if word == "knows":
            return self.is_hand(one) and self.is_saying(other, deep - 1)
        return word == "both" and self.is_saying(one, deep - 1) and self.is_saying(other, deep - 1)

    def is_hand(self, hand):
        """Tell whether a thing is the number of a hand."""
        return is_between(hand, 0, self.talk.hands() - 1)

    def is_look_number(self, number):
        """Tell whether a thing is the number of a look."""
        return is_between(number, 0, len(self.given) - 1)

    def answer_lots(self, numbers, last):
        """Tell the answers that a walk can give to these looks, each with where it may be then at the last beat."""
        looks = self.talk.looks()
        lots = {(): self.begin}
        for beat in range(last + 1):
            if beat > 0:
                lots = moved_lots(self.ground, self.paces[beat - 1], lots)
            for number in numbers:
                if looks[number][0] == beat:
                    lots = narrowed_lots(lots, self.given[number])
                    # Each of these answers can be gone on with, so there will not be fewer.
                    self.check_many(len(lots))
        return lots

    def check_many(self, many):
        """Refuse so many answers where they make too many worlds."""
        if many * len(self.losses) > MOST_WORLDS:
            raise TooMany(MOST_WORLDS)

    def judged(self, beat, saying):
        """Tell for each world whether the saying, which must be one, is so."""
        if self.asked != (beat, saying):
            self.truths = self.judge(beat, saying)
            self.asked = (beat, saying)
        return self.truths

    def judge(self, beat, saying):
        """Judge a saying over all worlds at once, from within, so that no world is judged twice."""
        word = saying[0]
        if word == "answer":
            return [told[saying[1]] == saying[2] for told, lost in self.rows]
        if word == "heard":
            heard = {lost: saying[2] in self.talk.heard(saying[1], beat, lost=lost) for lost in self.losses}
            return [heard[lost] for told, lost in self.rows]
        if word == "sure":
            return [all([place in saying[2] for place in lot]) for lot in self.possible_lots(saying[1], beat)]
        if word == "knows":
            return self.judge_known(saying[1], beat, self.judge(beat, saying[2]))
        if word == "not":
            return [not truth for truth in self.judge(beat, saying[1])]
        return [one and other for one, other in zip(self.judge(beat, saying[1]), self.judge(beat, saying[2]))]

    def judge_known(self, hand, beat, truths):
        """Tell for each world whether what is so in these worlds is so in all alike to the hand."""
        sights = self.all_sights(hand, beat)
        doubted = {sight: True for sight, truth in zip(sights, truths) if not truth}
        return [sight not in doubted for sight in sights]

    def alike_numbers(self, hand, beat, number):
        """Tell the numbers of the worlds that are alike to this one."""
        sights = self.all_sights(hand, beat)
        return [other for other, sight in enumerate(sights) if sight == sights[number]]

    def all_sights(self, hand, beat):
        """Tell for each world a number that stands for what the hand sees at the beat."""
        if (hand, beat) not in self.sights:
            self.sights[(hand, beat)] = self.make_sights(hand, beat)
        return self.sights[(hand, beat)]

    def make_sights(self, hand, beat):
        """Number what the hand sees: the letters that came, and the answers of all that it has heard."""
        came = {lost: tuple(self.talk.came(hand, beat, lost)) for lost in self.losses}
        heard = {lost: self.talk.heard(hand, beat, lost=lost) for lost in self.losses}
        numbers = {}
        sights = []
        for told, lost in self.rows:
            seen = (came[lost], tuple([told[number] for number in heard[lost]]))
            sights.append(numbers.setdefault(seen, len(numbers)))
        return sights

    def possible_lots(self, hand, beat):
        """Tell for each world where a walk may be at the beat, by the looks that the hand has heard."""
        if (hand, beat) not in self.lots_sure:
            self.lots_sure[(hand, beat)] = self.make_possible(hand, beat)
        return self.lots_sure[(hand, beat)]

    def make_possible(self, hand, beat):
        """Reckon where a walk may be, once for all worlds in which the hand has heard the same looks."""
        heard = {lost: tuple(self.talk.heard(hand, beat, lost=lost)) for lost in self.losses}
        lots = {numbers: self.answer_lots(list(numbers), beat) for numbers in sorted({heard[lost] for lost in heard})}
        return [
            lots[heard[lost]][tuple([told[number] for number in heard[lost]])]
            for told, lost in self.rows
        ]

    def __len__(self):
        return len(self.rows)
