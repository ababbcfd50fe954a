"""Games for the tests, and plain reckonings of them over all turns and lots of the board."""

import random

from roamlook.boards import Board
from roamlook.games import Game

from look_samples import plain_answer
from samples import all_lots, all_pairs, plain_steps
from story_samples import chance_look, chance_pace, chance_ways


class PlainGame:
    """A game by the words of points 12 to 15, reckoned for all turns and lots at once."""

    def __init__(self, many, ways, pace, hands, wish):
        self.many, self.ways, self.pace, self.hands, self.wish = many, ways, pace, hands, wish
        self.steps = plain_steps(many, ways, pace)
        self.answers = {
            look: tuple(plain_answer(ways, look, place) for place in range(many))
            for hand in hands for look, price in hand
        }
        self.lots = [lot for lot in all_lots(many) if lot]
        self.states = [(turn, lot) for turn in range(len(hands)) for lot in self.lots]
        self.plays = {state: self.all_outcomes(*state) for state in self.states}

    def choices(self, turn):
        return range(-1, len(self.hands[turn]))

    def answer_at(self, turn, choice, place):
        return 0 if choice == -1 else self.answers[self.hands[turn][choice][0]][place]

    def price_of(self, turn, choice):
        return 0 if choice == -1 else self.hands[turn][choice][1]

    def outcomes(self, turn, lot, choice):
        """For each answer: the narrowed lot, whether it breaks the wish, and the next turn and lot."""
        told = {}
        for answer in {self.answer_at(turn, choice, place) for place in lot}:
            narrow = tuple(place for place in lot if self.answer_at(turn, choice, place) == answer)
            behind = tuple(sorted({end for start, end in self.steps if start in narrow}))
            told[answer] = (narrow, len(narrow) > self.wish, ((turn + 1) % len(self.hands), behind))
        return told

    def all_outcomes(self, turn, lot):
        return {choice: self.outcomes(turn, lot, choice) for choice in self.choices(turn)}

    def is_kept(self, state, kept):
        """Whether some choice leads, whatever is answered, unbroken into what is kept."""
        return any(
            all(not broken and behind in kept for narrow, broken, behind in told.values())
            for told in self.plays[state].values()
        )

    def kept_for(self, beats):
        """The set of the turns and lots in which the wish is kept for so many beats."""
        kept = set(self.states)
        for beat in range(beats):
            kept = {state for state in self.states if self.is_kept(state, kept)}
        return kept

    def all_lasting(self):
        """How long the wish lasts for each turn and lot, None for ever."""
        lasting = {}
        kept, beats = set(self.states), 0
        while True:
            later = {state for state in self.states if self.is_kept(state, kept)}
            if later == kept:
                return {state: lasting.get(state) for state in self.states}
            lasting.update({state: beats for state in kept - later})
            kept, beats = later, beats + 1

    def all_prices(self, beats):
        """What so many beats cost from each turn and lot, None where the wish isn't kept."""
        prices = {state: 0 for state in self.states}
        for beat in range(beats):
            prices = {state: self.one_price(state, prices) for state in self.states}
        return prices

    def one_price(self, state, prices):
        sums = []
        for choice, told in self.plays[state].items():
            later = [None if broken else prices[behind] for narrow, broken, behind in told.values()]
            if None not in later:
                sums.append(max(later) + self.price_of(state[0], choice))
        return min(sums) if sums else None

    def book_holds(self, turn, lot, rows):
        """Whether rows are a book for this beginning, by the words of point 13."""
        states = [row[:2] for row in rows]
        if (turn, lot) not in states or len(set(states)) != len(states):
            return False
        for own_turn, own_lot, choice in rows:
            if (own_turn, own_lot) not in self.plays or choice not in self.choices(own_turn):
                return False
            for narrow, broken, behind in self.plays[own_turn, own_lot][choice].values():
                if broken or behind not in states:
                    return False
        return True

    def answerer_holds(self, turn, lot, beats, rows):
        """Whether rows are an answerer for this beginning, by the words of point 14."""
        heads = [row[:3] for row in rows]
        if (turn, lot, beats) not in heads or len(set(heads)) != len(heads):
            return False
        known = set(heads)
        for own_turn, own_lot, left, given in rows:
            if (own_turn, own_lot) not in self.plays or left < 1 or len(given) != len(self.hands[own_turn]) + 1:
                return False
            for choice, answer in zip(self.choices(own_turn), given):
                told = self.plays[own_turn, own_lot][choice]
                if answer not in told:
                    return False
                narrow, broken, behind = told[answer]
                if not broken and not (left > 1 and behind + (left - 1,) in known):
                    return False
        return True


def chance_hand(chance, many, most=4):
    return tuple((chance_look(chance, many), chance.choice((0, 1, 2, 5, 99))) for look in range(chance.randint(0, most)))


def sharp_hand(chance, many, count):
    """A hand whose looks part few places from the others, so that a wish is broken late."""
    looks = []
    for number in range(count):
        lot = tuple(sorted(chance.sample(range(many), min(many, chance.choice((1, 1, 2))))))
        looks.append((("in", lot), chance.randint(0, 9)))
    return tuple(looks)


def game_plans(turns=2, seed=50):
    """What games are made from: (many, ways, pace, hands, wish)."""
    chance = random.Random(seed)
    plans = []
    for turn in range(turns):
        for many in (1, 2, 3, 3, 4, 4, 5, 5):
            for hands in (1, 2, 3):
                plan = tuple(chance_hand(chance, many) for hand in range(hands))
                ways = chance_ways(chance, many)
                plans.append((many, ways, chance_pace(chance, many), plan, chance.randint(1, many)))
                sharp = tuple(sharp_hand(chance, many, chance.randint(0, 3)) for hand in range(hands))
                line = [(place, place + 1) for place in range(many - 1)]
                ways = chance.choice((line, line + [(end, start) for start, end in line], ways))
                plans.append((many, ways, (1,) * many, sharp, chance.randint(1, max(1, many - 1))))
    return plans


def great_plans(turns=4, seed=51):
    """Games on eight places with three full hands."""
    chance = random.Random(seed)
    plans = []
    for turn in range(turns):
        for wish in (1, 2, 3, 4, 6, 8):
            hands = tuple(tuple((chance_look(chance, 8), chance.randint(0, 99)) for look in range(4)) for hand in range(3))
            plans.append((8, chance.sample(all_pairs(8), 10), chance_pace(chance, 8), hands, wish))
    return plans


def made_game(plan):
    many, ways, pace, hands, wish = plan
    return Game(Board(many, ways), pace, hands, wish=wish)
