"""Talks for the tests, and plain reckonings of what hands hear and see, of worlds and of sayings."""

import itertools
import random

from roamlook.boards import Board
from roamlook.talks import Talk
from roamlook.worlds import Worlds

from look_samples import plain_answer
from samples import all_lots
from story_samples import all_walks, chance_look, chance_lot, chance_pace, chance_ways


class PlainTalk:
    """A talk by the words of point 16, played beat by beat."""

    def __init__(self, delays, looks):
        self.delays, self.looks = delays, looks
        self.many = len(delays)
        self.letters = [
            (number, other) for number, (beat, hand, look) in enumerate(looks)
            for other in range(self.many) if other != hand
        ]

    def comes(self, letter):
        beat, hand, look = self.looks[letter[0]]
        return beat + self.delays[hand][letter[1]]

    def play(self, lost, last):
        """For each beat and hand, behind the looks: the looks heard, and the letters that came with what was in them."""
        heard = [set() for hand in range(self.many)]
        came = [[] for hand in range(self.many)]
        sent, told = {}, []
        for beat in range(last + 1):
            # All that come at this beat were sent at earlier ones.
            for letter in sorted(sent):
                if letter not in lost and self.comes(letter) == beat:
                    heard[letter[1]] |= sent[letter]
                    came[letter[1]].append((letter, beat, tuple(sorted(sent[letter]))))
            for number, (at, hand, look) in enumerate(self.looks):
                if at == beat:
                    heard[hand].add(number)
                    for other in range(self.many):
                        if other != hand:
                            sent[number, other] = set(heard[hand])
            told.append([(sorted(heard[hand]), tuple(came[hand])) for hand in range(self.many)])
        return told


class PlainWorlds:
    """Worlds and sayings by the words of points 17 and 18, over all walks."""

    def __init__(self, shape, lot, paces, delays, looks, lost):
        self.shape, self.paces, self.looks = shape, paces, looks
        self.talk = PlainTalk(delays, looks)
        self.walks = all_walks(shape, (lot, paces, ()))
        self.by_walk = {walk: self.walk_answers(walk) for walk in self.walks}
        losses = [
            letters for count in range(lost + 1) for letters in itertools.combinations(self.talk.letters, count)
        ]
        self.worlds = sorted((told, letters) for told in set(self.by_walk.values()) for letters in losses)
        self.played = {letters: self.talk.play(letters, len(paces)) for letters in losses}
        self.truths, self.alikes = {}, {}

    def walk_answers(self, walk):
        return tuple(plain_answer(self.shape[1], look, walk[beat]) for beat, hand, look in self.looks)

    def sight(self, hand, beat, world):
        """What a hand sees: its own looks so far and the letters that came, all with the answers in them."""
        told, lost = world
        own = [(number, told[number]) for number, row in enumerate(self.looks) if row[1] == hand and row[0] <= beat]
        heard, came = self.played[lost][beat][hand]
        return own, [(letter, at, [(number, told[number]) for number in content]) for letter, at, content in came]

    def alike(self, hand, beat, world):
        key = (hand, beat, world)
        if key not in self.alikes:
            own = self.sight(hand, beat, world)
            self.alikes[key] = [other for other in self.worlds if self.sight(hand, beat, other) == own]
        return self.alikes[key]

    def so(self, beat, world, saying):
        key = (beat, world, saying)
        if key not in self.truths:
            self.truths[key] = self.reckon(beat, world, saying)
        return self.truths[key]

    def reckon(self, beat, world, saying):
        word = saying[0]
        told, lost = world
        if word == "answer":
            return told[saying[1]] == saying[2]
        if word == "heard":
            return saying[2] in self.played[lost][beat][saying[1]][0]
        if word == "sure":
            return self.places(beat, world, saying[1]) <= set(saying[2])
        if word == "knows":
            return all(self.so(beat, other, saying[2]) for other in self.alike(saying[1], beat, world))
        if word == "not":
            return not self.so(beat, world, saying[1])
        assert word == "both"
        return self.so(beat, world, saying[1]) and self.so(beat, world, saying[2])

    def places(self, beat, world, hand):
        """Where walks are at the beat that give the answers of all looks that the hand has heard."""
        told, lost = world
        heard = self.played[lost][beat][hand][0]
        return {
            walk[beat] for walk in self.walks
            if all(self.by_walk[walk][number] == told[number] for number in heard)
        }

    def other(self, hand, beat, world, saying):
        for other in self.alike(hand, beat, world):
            if not self.so(beat, other, saying):
                return other
        return None


def chance_delays(chance, many, most=9):
    return tuple(
        tuple(0 if other == hand else chance.randint(1, most) for other in range(many)) for hand in range(many)
    )


def chance_talk(chance, many, last, count, hands, most=4):
    """Delays and looks of a talk on a board with so many places."""
    beats = sorted(chance.choice((chance.randint(0, last), last // 2)) for number in range(count))
    looks = tuple((beat, chance.randrange(hands), chance_look(chance, many)) for beat in beats)
    return chance_delays(chance, hands, most), looks


def talk_plans(turns=30, seed=80):
    """Delays and looks of talks of all sizes."""
    chance = random.Random(seed)
    plans = []
    for turn in range(turns):
        for hands in (2, 3, 4):
            for count in range(7):
                last = chance.choice((0, 1, 3, 6, 12))
                plans.append(chance_talk(chance, chance.randint(1, 8), last, count, hands, chance.choice((1, 3, 9))))
    return plans


WORLD_SIZES = (
    (1, 12, 4, 2, 2), (2, 5, 3, 2, 2), (2, 4, 4, 2, 2), (3, 3, 2, 2, 2), (3, 4, 3, 2, 1), (4, 3, 3, 3, 1),
    (2, 6, 2, 3, 2), (3, 3, 4, 4, 1), (3, 2, 2, 4, 2), (4, 3, 5, 2, 0), (5, 2, 6, 3, 0), (3, 4, 6, 4, 0),
    (8, 2, 2, 2, 1), (3, 0, 3, 2, 1), (2, 3, 0, 4, 2),
)


def world_plans(turns=2, seed=81, most=150):
    """What small worlds are made from: (shape, lot, paces, delays, looks, lost), at most so many worlds."""
    chance = random.Random(seed)
    plans = []
    for turn in range(turns):
        for many, last, count, hands, lost in WORLD_SIZES:
            ways = chance_ways(chance, many)
            lot = chance_lot(chance, many)
            paces = tuple(chance_pace(chance, many) for beat in range(last))
            delays, looks = chance_talk(chance, many, last, count, hands, chance.choice((1, 2, 3)))
            plan = ((many, ways), lot, paces, delays, looks, lost)
            if len(PlainWorlds(*plan).worlds) <= most:
                plans.append(plan)
    return plans


def chance_saying(chance, plan, deep):
    """A saying that is just so deep."""
    (many, ways), lot, paces, delays, looks, lost = plan
    hand = chance.randrange(len(delays))
    if deep > 1:
        within = chance_saying(chance, plan, deep - 1)
        other = chance_saying(chance, plan, chance.randint(1, deep - 1))
        return chance.choice((
            ("knows", hand, within), ("knows", hand, within), ("not", within), ("both", within, other),
            ("both", other, within),
        ))
    sayings = [("sure", hand, chance.choice(all_lots(many)))]
    if looks:
        number = chance.randrange(len(looks))
        answer = plain_answer(ways, looks[number][2], chance.randrange(many))
        sayings.append(("heard", hand, number))
        sayings.append(("answer", number, chance.choice((answer, answer, answer, -1, 99))))
    return chance.choice(sayings)


def made_worlds(plan):
    (many, ways), lot, paces, delays, looks, lost = plan
    return Worlds(Board(many, ways), lot, paces, Talk(delays, looks), lost=lost)
