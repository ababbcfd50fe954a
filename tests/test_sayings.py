"""Sayings: when they are so, worlds in which they are not, and sayings that are none."""

import random
import time
import unittest

from roamlook.boards import Board
from roamlook.errors import BadSaying
from roamlook.talks import Talk
from roamlook.worlds import Worlds

from samples import FAR_NUMBERS, all_lots, all_pairs, no_lots
from talk_samples import PlainWorlds, chance_delays, chance_saying, made_worlds, world_plans

LOOK = ("in", (0,))
PAIR = ((0, 1), (1, 0))
RING = [(place, (place + 1) % 8) for place in range(8)] + [(place, (place - 1) % 8) for place in range(8)]


def deepened(saying, words, hands):
    """The saying within one level more for each of the words."""
    for at, word in enumerate(words):
        if word == "knows":
            saying = ("knows", at % hands, saying)
        elif word == "not":
            saying = ("not", saying)
        else:
            saying = ("both", saying, saying)
    return saying


class So(unittest.TestCase):
    def test_by_a_plain_reckoning(self):
        chance = random.Random(100)
        found = {}
        for plan in world_plans(3, 101):
            worlds, plain = made_worlds(plan), PlainWorlds(*plan)
            for deep in (1, 1, 1, 2, 2, 3, 4, 5, 6, 6):
                saying = chance_saying(chance, plan, deep)
                for turn in range(8):
                    world = chance.choice(plain.worlds)
                    beat, hand = chance.randint(0, len(plan[2])), chance.randrange(len(plan[3]))
                    told = worlds.so(beat, world, saying)
                    self.assertIs(told, plain.so(beat, world, saying), (plan, beat, world, saying))
                    other = worlds.other(hand, beat, world, saying)
                    self.assertEqual(other, plain.other(hand, beat, world, saying), (plan, beat, hand, world, saying))
                    found[deep, saying[0], told] = found.get((deep, saying[0], told), 0) + 1
        for word in ("answer", "heard", "sure"):
            self.assertTrue({(1, word, True), (1, word, False)} <= set(found), found)
        for word in ("knows", "not", "both"):
            self.assertTrue({(6, word, True), (6, word, False)} <= set(found), found)

    def test_each_lot_and_hand_is_sure_by_what_was_heard(self):
        for plan in world_plans(1, 102):
            worlds, plain = made_worlds(plan), PlainWorlds(*plan)
            for world in plain.worlds[::max(1, len(plain.worlds) // 6)]:
                for hand in range(len(plan[3])):
                    for beat in range(len(plan[2]) + 1):
                        places = plain.places(beat, world, hand)
                        for lot in all_lots(plan[0][0])[::max(1, 2 ** plan[0][0] // 16)]:
                            self.assertIs(worlds.so(beat, world, ("sure", hand, lot)), places <= set(lot))

    def test_answers_of_looks_to_come(self):
        worlds = Worlds(Board(2), (0, 1), ((0, 0),) * 5, Talk(PAIR, ((5, 0, LOOK),)))
        for beat in range(6):
            self.assertTrue(worlds.so(beat, ((1,), ()), ("answer", 0, 1)))
            self.assertFalse(worlds.so(beat, ((1,), ()), ("answer", 0, 0)))
            self.assertFalse(worlds.so(beat, ((1,), ()), ("answer", 0, 7)))
            knows = ("knows", 0, ("answer", 0, 1))
            self.assertIs(worlds.so(beat, ((1,), ()), knows), beat == 5)
            self.assertIs(worlds.so(beat, ((0,), ()), knows), False)

    def test_a_look_to_come_can_be_known_by_one_that_was_made(self):
        worlds = Worlds(Board(2), (0, 1), ((0, 0),) * 5, Talk(PAIR, ((0, 1, LOOK), (5, 0, LOOK))))
        world = ((1, 1), ())
        self.assertTrue(worlds.so(0, world, ("knows", 1, ("answer", 1, 1))))
        self.assertFalse(worlds.so(0, world, ("knows", 0, ("answer", 1, 1))))
        self.assertTrue(worlds.so(1, world, ("knows", 0, ("answer", 1, 1))))

    def test_heard_by_the_beat_behind_its_looks(self):
        worlds = Worlds(Board(1), (0,), ((0,),) * 4, Talk(((0, 2), (1, 0)), ((1, 0, LOOK),)))
        for lost, one in ((), [False, True, True, True, True]), (((0, 1),), [False, True, True, True, True]):
            self.assertEqual([worlds.so(beat, ((1,), lost), ("heard", 0, 0)) for beat in range(5)], one)
        came = [worlds.so(beat, ((1,), ()), ("heard", 1, 0)) for beat in range(5)]
        self.assertEqual(came, [False, False, False, True, True])
        lost = [worlds.so(beat, ((1,), ((0, 1),)), ("heard", 1, 0)) for beat in range(5)]
        self.assertEqual(lost, [False] * 5)

    def test_how_many_letters_may_be_lost_tells_who_knows_that_another_knows(self):
        # Where two may be lost the third level waits for a letter more; behind that all levels are known at once.
        none = ("in", ())
        talk = Talk(PAIR, ((0, 0, LOOK), (1, 1, none), (2, 0, none), (3, 1, none)))
        for lost, first in ((0, [1, 1, 1, 1, 1]), (1, [1, 2, 2, 2, 2]), (2, [1, 2, 3, 3, 3])):
            worlds = Worlds(Board(2), (0, 1), ((0, 0),) * 6, talk, lost=lost)
            knows = ("answer", 0, 1)
            for deep, beat in enumerate(first):
                knows = ("knows", (deep + 1) % 2, knows)
                truths = [worlds.so(at, ((1, 0, 0, 0), ()), knows) for at in range(7)]
                self.assertEqual(truths, [at >= beat for at in range(7)], (lost, deep))

    def test_the_empty_lot_is_never_sure(self):
        worlds = Worlds(Board(2), (0,), ((1, 1),), Talk(PAIR, ()))
        self.assertFalse(worlds.so(1, ((), ()), ("sure", 0, ())))
        self.assertTrue(worlds.so(1, ((), ()), ("sure", 0, (0,))))


class Laws(unittest.TestCase):
    def test_what_is_known_is_so(self):
        chance = random.Random(103)
        count = 0
        for plan in world_plans(2, 104):
            worlds = made_worlds(plan)
            for deep in (1, 2, 3):
                saying, hand = chance_saying(chance, plan, deep), chance.randrange(len(plan[3]))
                beat = chance.randint(0, len(plan[2]))
                for world in worlds.worlds()[::5]:
                    if worlds.so(beat, world, ("knows", hand, saying)):
                        count += 1
                        self.assertTrue(worlds.so(beat, world, saying))
                        self.assertTrue(worlds.so(beat, world, ("knows", hand, ("knows", hand, saying))))
                    else:
                        doubts = ("not", ("knows", hand, saying))
                        self.assertTrue(worlds.so(beat, world, ("knows", hand, doubts)))
        self.assertGreater(count, 100)

    def test_other_is_none_just_where_it_is_known(self):
        chance = random.Random(105)
        for plan in world_plans(2, 106):
            worlds = made_worlds(plan)
            for deep in (1, 2, 3, 5):
                saying, hand = chance_saying(chance, plan, deep), chance.randrange(len(plan[3]))
                beat = chance.randint(0, len(plan[2]))
                for world in worlds.worlds()[::7]:
                    other = worlds.other(hand, beat, world, saying)
                    self.assertEqual(other is None, worlds.so(beat, world, ("knows", hand, saying)))
                    if other is not None:
                        self.assertIn(other, worlds.alike(hand, beat, world))
                        self.assertFalse(worlds.so(beat, other, saying))

    def test_asked_again_the_same_is_told(self):
        chance = random.Random(107)
        for plan in world_plans(1, 108):
            worlds, fresh = made_worlds(plan), made_worlds(plan)
            asked = []
            for turn in range(12):
                saying = chance_saying(chance, plan, chance.randint(1, 6))
                asked.append((chance.randint(0, len(plan[2])), chance.choice(worlds.worlds()), saying))
            first = [worlds.so(*ask) for ask in asked]
            self.assertEqual([worlds.so(*ask) for ask in asked[::-1]], first[::-1])
            self.assertEqual([fresh.so(*ask) for ask in asked[::-1]], first[::-1])


class NoSayings(unittest.TestCase):
    def setUp(self):
        self.worlds = Worlds(Board(2), (0, 1), ((1, 1),) * 3, Talk(PAIR, ((0, 0, LOOK), (2, 1, LOOK))))
        self.world = self.worlds.worlds()[0]

    def refused(self, saying):
        with self.assertRaises(BadSaying, msg=saying):
            self.worlds.so(1, self.world, saying)
        with self.assertRaises(BadSaying, msg=saying):
            self.worlds.other(0, 1, self.world, saying)

    def no_sayings(self):
        good = ("answer", 0, 1)
        told = [
            ("",), ("x", 0, 1), ("Answer", 0, 1), ("answer",), ("heard",), ("sure",), ("knows",), ("not",), ("both",),
            ("answer", 0), ("answer", 0, 1, 1), ("heard", 0), ("heard", 0, 0, 0), ("sure", 0), ("sure", 0, (0,), 1),
            ("knows", 0), ("knows", good, 0), ("knows", 0, good, good), ("not", good, good), ("both", good),
            ("both", good, good, good), ("nots", good), ("either", good, good),
        ]
        for number in (-1, 2, 3) + FAR_NUMBERS:
            told += [("answer", number, 0), ("heard", 0, number), ("heard", number, 0), ("sure", number, (0,))]
            told += [("knows", number, good)]
        told += [("sure", 0, lot) for lot in no_lots(2)]
        return told

    def test_sayings_that_are_none(self):
        good = ("heard", 1, 0)
        for saying in self.no_sayings():
            self.refused(saying)
            for within in (("not", saying), ("knows", 0, saying), ("both", saying, good), ("both", good, saying)):
                self.refused(within)
            self.refused(deepened(saying, ("not", "knows", "both", "not", "knows"), 2))

    def test_at_most_six_deep(self):
        for leaf in (("answer", 0, 1), ("heard", 0, 1), ("sure", 1, (0,))):
            for words in (("not",) * 5, ("knows",) * 5, ("both",) * 5, ("both", "not", "knows", "not", "both")):
                six = deepened(leaf, words, 2)
                self.assertIn(self.worlds.so(1, self.world, six), (True, False))
                for seven in (("not", six), ("knows", 1, six), ("both", six, leaf), ("both", leaf, six)):
                    self.refused(seven)
                    self.refused(("not", seven))
        self.refused(deepened(("answer", 0, 1), ("not",) * 60, 2))

    def test_true_is_no_number(self):
        for saying in (("answer", False, 1), ("answer", 0, True), ("heard", True, 0), ("sure", False, (0,)), ("sure", 0, (True,))):
            self.refused(saying)

    def test_answers_that_no_place_gives_are_let(self):
        for number in (-1, 2, 9) + FAR_NUMBERS:
            self.assertFalse(self.worlds.so(1, self.world, ("answer", 0, number)))

    def test_no_looks_no_sayings_of_looks(self):
        worlds = Worlds(Board(2), (0,), (), Talk(PAIR, ()))
        for saying in (("answer", 0, 0), ("heard", 0, 0)):
            with self.assertRaises(BadSaying):
                worlds.so(0, ((), ()), saying)


class Great(unittest.TestCase):
    """The limits are wide, so that a slow machine passes: plain recursion would take hours."""

    def asked_soon(self, worlds, hands, numbers):
        begun = time.monotonic()
        chance = random.Random(109)
        told = worlds.worlds()
        for turn in range(3):
            for leaf in (("sure", 1, (0, 1, 2, 3)), ("answer", numbers - 1, 1), ("heard", 0, numbers - 1)):
                for words in (("knows",) * 5, ("both",) * 5, ("knows", "both", "not", "knows", "both")):
                    saying = deepened(leaf, words, hands)
                    for beat in (6, 12):
                        for world in chance.sample(told, min(20, len(told))):
                            worlds.so(beat, world, saying)
                            worlds.other(0, beat, world, saying)
        self.assertLess(time.monotonic() - begun, 60)

    def test_six_levels_over_some_thousand_worlds(self):
        chance = random.Random(110)
        board, lot, paces = Board(8, RING), tuple(range(8)), ((1,) * 8,) * 12
        sizes = []
        for hands, count, lost in ((4, 6, 1), (3, 4, 2), (2, 6, 1), (4, 4, 1), (2, 6, 2)):
            delays = chance_delays(chance, hands, 3)
            looks = tuple((2 * at, at % hands, ("in", (0, 1, 2, 3))) for at in range(count))
            worlds = Worlds(board, lot, paces, Talk(delays, looks), lost=lost)
            sizes.append(len(worlds))
            self.asked_soon(worlds, hands, count)
        self.assertGreater(max(sizes), 1000)

    def test_3000_worlds(self):
        lots = [tuple((place,) for place in range(size - 1)) + (tuple(range(size - 1, 8)),) for size in (5, 5, 4, 6)]
        looks = tuple((3 * at, at % 2, ("parts", parts)) for at, parts in enumerate(lots))
        worlds = Worlds(Board(8, all_pairs(8)), tuple(range(8)), ((7,) * 8,) * 12, Talk(PAIR, looks))
        self.assertEqual(len(worlds), 3000)
        self.asked_soon(worlds, 2, 4)
        self.assertEqual(sum(len(worlds.alike(1, 12, world)) > 0 for world in worlds.worlds()[::10]), 300)


if __name__ == "__main__":
    unittest.main()
