"""Games: which look next keeps a wish, for how long, at what price, and who shows it."""

from roamlook.boards import MOST_PLACES, check_filled_lot, is_between
from roamlook.errors import BadBeat, BadHands, BadWish, NoHand
from roamlook.looks import answers, is_look
from roamlook.paces import check_pace

MOST_GAME = 20
MOST_HANDS = 3
MOST_CHOICES = 4
MOST_PRICE = 99


def is_priced_look(board, pair):
    """Tell whether a thing is a pair of a look of the board and a price."""
    if not isinstance(pair, tuple) or len(pair) != 2:
        return False
    return is_look(board, pair[0]) and is_between(pair[1], 0, MOST_PRICE)


def is_hand(board, hand):
    """Tell whether a thing is a hand on the board."""
    if not isinstance(hand, tuple) or len(hand) > MOST_CHOICES:
        return False
    return all([is_priced_look(board, pair) for pair in hand])


def check_hands(board, hands):
    """Refuse too few or too many hands, or the first that is none."""
    if not is_between(len(hands), 1, MOST_HANDS):
        raise BadHands(len(hands))
    for number, hand in enumerate(hands):
        if not is_hand(board, hand):
            raise BadHands(number)


def hand_options(board, hand):
    """Tell for each choice of a hand, none first, the answers of all places and the price."""
    return [((0,) * len(board), 0)] + [(answers(board, look), price) for look, price in hand]


def falling_states(links, lasts):
    """Tell those turns and lots not yet in lasts from which each choice can lead into it, or which have none."""
    return [
        state for state in links
        if state not in lasts and lasting_choice(links[state], lasts) is None
    ]


def lasting_choice(choices, lasts):
    """Tell the first choice, with what comes next, that cannot lead into lasts, or None."""
    for choice, comes_next in choices:
        if not any([state in lasts for state in comes_next]):
            return (choice, comes_next)
    return None


def worst_cost(comes_next, costs):
    """Tell the most that what comes next can cost, None where it may break the wish."""
    if not all([state in costs for state in comes_next]):
        return None
    return max([costs[state] for state in comes_next])


class Game:
    """A thing moves on a board; hands look by turns, so that it is never in more places than wished."""

    def __init__(self, board, pace, hands, *, wish=1):
        check_pace(board, pace)
        check_hands(board, hands)
        if not is_between(wish, 1, MOST_PLACES):
            raise BadWish(wish)
        self.ground = board
        self.most = wish
        self.ends = [board.within(place, number) for place, number in enumerate(pace)]
        self.options = [hand_options(board, hand) for hand in hands]

    def turns(self):
        """Tell how many hands there are."""
        return len(self.options)

    def lasting(self, lot, *, turn=0):
        """Tell the most beats for which the wish is kept, None for ever."""
        self.check_lot(lot)
        self.check_turn(turn)
        return self.lasts_of(self.links_from(turn, lot)).get((turn, lot))

    def keeps(self, lot, beats, *, turn=0):
        """Tell whether the wish is kept for so many beats."""
        self.check_asked(lot, beats, 0, turn)
        beats_kept = self.lasting(lot, turn=turn)
        return beats_kept is None or beats <= beats_kept

    def price(self, lot, beats, *, turn=0):
        """Tell the least sum that is enough to keep the wish for so many beats, None where it isn't kept."""
        self.check_asked(lot, beats, 0, turn)
        links = self.links_from(turn, lot)
        costs = {state: 0 for state in links}
        for beat in range(beats):
            costs = self.costs_ahead(links, costs)
        return costs.get((turn, lot))

    def book(self, lot, *, turn=0):
        """Tell a book that holds for this beginning, None where the wish doesn't last for ever."""
        self.check_lot(lot)
        self.check_turn(turn)
        links = self.links_from(turn, lot)
        lasts = self.lasts_of(links)
        if (turn, lot) in lasts:
            return None
        chosen = {}
        left = [(turn, lot)]
        while left:
            state = left.pop()
            if state not in chosen:
                choice, comes_next = lasting_choice(links[state], lasts)
                chosen[state] = choice
                left.extend(comes_next)
        return sorted([(state[0], state[1], chosen[state]) for state in chosen])

    def answerer(self, lot, beats, *, turn=0):
        """Tell an answerer that holds for so many beats, None where the wish is kept."""
        self.check_asked(lot, beats, 1, turn)
        lasts = self.lasts_of(self.links_from(turn, lot))
        if lasts.get((turn, lot), beats) >= beats:
            return None
        chosen = {}
        left = [(turn, lot, beats)]
        while left:
            row = left.pop()
            if row not in chosen:
                chosen[row] = self.breaking_answers(row, lasts)
                left.extend(self.rows_behind(row, chosen[row]))
        return sorted([(row[0], row[1], row[2], chosen[row]) for row in chosen])

    def check_lot(self, lot):
        """Refuse a lot on which no game is played."""
        check_filled_lot(self.ground, lot)

    def check_turn(self, turn):
        """Refuse the turn of a hand that isn't there."""
        if not is_between(turn, 0, self.turns() - 1):
            raise NoHand(turn)

    def check_asked(self, lot, beats, fewest, turn):
        """Refuse a lot, a count of beats, at least the fewest, or a turn."""
        self.check_lot(lot)
        if not is_between(beats, fewest, MOST_GAME):
            raise BadBeat(beats)
        self.check_turn(turn)

    def choices_of(self, turn):
        """Tell the numbers of the choices of the hand whose turn it is, none first."""
        return list(range(-1, len(self.options[turn]) - 1))

    def narrowed(self, turn, lot, choice):
        """Tell for each answer that some place of the lot gives, rising, the lot of the places that give it."""
        given, price = self.options[turn][choice + 1]
        return {
            answer: tuple([place for place in lot if given[place] == answer])
            for answer in sorted({given[place] for place in lot})
        }

    def breaks(self, lot):
        """Tell whether a narrowed lot breaks the wish."""
        return len(lot) > self.most

    def behind(self, turn, lot):
        """Tell the turn and the lot that come behind a narrowed lot."""
        later = turn + 1 if turn + 1 < self.turns() else 0
        return (later, tuple(sorted({end for place in lot for end in self.ends[place]})))

    def unbroken(self, turn, lot):
        """Tell the choices by which the wish isn't broken at once, with the turns and lots that may come next."""
        told = []
        for choice in self.choices_of(turn):
            lots = list(self.narrowed(turn, lot, choice).values())
            if not any([self.breaks(narrow) for narrow in lots]):
                told.append((choice, [self.behind(turn, narrow) for narrow in lots]))
        return told

    def links_from(self, turn, lot):
        """Tell the unbroken choices of each turn and lot to which they can lead from here."""
        links = {}
        left = [(turn, lot)]
        while left:
            state = left.pop()
            if state not in links:
                links[state] = self.unbroken(state[0], state[1])
                for choice, comes_next in links[state]:
                    left.extend(comes_next)
        return links

    def lasts_of(self, links):
        """Tell how long the wish lasts from each turn and lot; those that last for ever are not told."""
        lasts = {}
        beats = 0
        fallen = falling_states(links, lasts)
        while fallen:
            for state in fallen:
                lasts[state] = beats
            beats += 1
            fallen = falling_states(links, lasts)
        return lasts

    def costs_ahead(self, links, costs):
        """Tell what one beat more costs from each turn and lot; those in which the wish is broken are not told."""
        dearer = {}
        for state in links:
            for choice, comes_next in links[state]:
                worst = worst_cost(comes_next, costs)
                if worst is not None:
                    price = worst + self.options[state[0]][choice + 1][1]
                    dearer[state] = min(price, dearer.get(state, price))
        return dearer

    def breaking_answers(self, row, lasts):
        """Tell for each choice the first answer by which the wish will be broken within the row's beats."""
        turn, lot, beats = row
        return tuple([
            self.breaking_answer(turn, self.narrowed(turn, lot, choice), beats, lasts)
            for choice in self.choices_of(turn)
        ])

    def breaking_answer(self, turn, lots, beats, lasts):
        """Tell the first answer whose lot breaks the wish, or else from whose lot it doesn't last."""
        for answer in lots:
            if self.breaks(lots[answer]):
                return answer
        for answer in lots:
            if lasts.get(self.behind(turn, lots[answer]), beats) < beats - 1:
                return answer
        return None

    def rows_behind(self, row, given):
        """Tell what comes next by these answers where the wish isn't broken, with one beat fewer."""
        turn, lot, beats = row
        rows = []
        for choice, answer in zip(self.choices_of(turn), given):
            narrow = self.narrowed(turn, lot, choice)[answer]
            if not self.breaks(narrow):
                later, lot_behind = self.behind(turn, narrow)
                rows.append((later, lot_behind, beats - 1))
        return rows
