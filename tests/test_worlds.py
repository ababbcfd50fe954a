"""Worlds of talks: which there are, which are alike to a hand, and how many are too many."""

import itertools
import random
import unittest

from roamlook.boards import Board
from roamlook.errors import BadBeat, BadCount, BadLook, BadLot, BadPace, BadSaying, BadWorld, NoHand, TooMany
from roamlook.talks import Talk
from roamlook.worlds import MOST_WORLDS, Worlds

from look_samples import no_looks
from samples import FAR_NUMBERS, all_pairs, no_lots, no_paces
from talk_samples import PlainWorlds, chance_delays, made_worlds, world_plans

LOOK = ("in", (0,))
PAIR = ((0, 1), (1, 0))


def refused_of(case, kind, ask):
    with case.assertRaises(kind) as refused:
        ask()
    return refused.exception


class Listing(unittest.TestCase):
    def test_all_worlds_by_a_plain_list_of_walks_and_losses(self):
        sizes = set()
        for plan in world_plans(4, 90, 400):
            worlds, plain = made_worlds(plan), PlainWorlds(*plan)
            told = worlds.worlds()
            self.assertIs(type(told), list)
            self.assertEqual(told, plain.worlds, plan)
            self.assertEqual(told, sorted(set(told)))
            self.assertEqual(len(worlds), len(plain.worlds))
            sizes.add((len(told) > 1, plan[-1]))
        self.assertTrue({(True, 0), (True, 1), (True, 2)} <= sizes)

    def test_one_lost_letter_where_nothing_is_handed_in(self):
        talk = Talk(PAIR, ((0, 0, LOOK), (0, 1, LOOK)))
        worlds = Worlds(Board(1), (0,), (), talk)
        self.assertEqual(worlds.worlds(), [((1, 1), ()), ((1, 1), ((0, 1),)), ((1, 1), ((1, 0),))])
        self.assertEqual(len(Worlds(Board(1), (0,), (), talk, lost=0)), 1)
        self.assertEqual(Worlds(Board(1), (0,), (), talk, lost=2).worlds()[2], ((1, 1), ((0, 1), (1, 0))))
        with self.assertRaises(TypeError):
            Worlds(Board(1), (0,), (), talk, 1)

    def test_no_looks_make_one_world(self):
        for lost in (0, 1, 2):
            worlds = Worlds(Board(3, all_pairs(3)), (0, 1), ((1, 1, 1),) * 12, Talk(PAIR, ()), lost=lost)
            self.assertEqual(worlds.worlds(), [((), ())])
            self.assertEqual(len(worlds), 1)
            self.assertEqual(worlds.alike(1, 12, ((), ())), [((), ())])

    def test_told_lists_are_new_ones(self):
        worlds = Worlds(Board(2), (0, 1), (), Talk(PAIR, ((0, 0, LOOK),)))
        kept = worlds.worlds()
        worlds.worlds().clear()
        worlds.alike(1, 0, kept[0]).clear()
        self.assertEqual(worlds.worlds(), kept)
        self.assertEqual(worlds.alike(1, 0, kept[0]), kept)
        self.assertEqual(len(worlds), 4)

    def test_by_names_in_any_order(self):
        worlds = Worlds(lost=0, talk=Talk(PAIR, ((0, 0, LOOK),)), paces=(), lot=(0, 1), board=Board(2))
        world = ((1,), ())
        self.assertEqual(worlds.alike(world=world, beat=0, hand=1), [((0,), ()), world])
        self.assertIs(worlds.so(saying=("answer", 0, 1), world=world, beat=0), True)
        self.assertEqual(worlds.other(saying=("answer", 0, 1), world=world, beat=0, hand=1), ((0,), ()))


class TooManyWorlds(unittest.TestCase):
    def parts(self, many):
        return ("parts", tuple((place,) for place in range(many)))

    def test_just_3000_are_let(self):
        self.assertEqual(MOST_WORLDS, 3000)
        # 4 hands, 1 look: 3 letters, 1 + 3 + 3 sets of lost ones.
        delays = chance_delays(random.Random(1), 4)
        for count in range(1, 7):
            talk = Talk(delays, tuple((beat, beat % 4, self.parts(3)) for beat in range(count)))
            for lost in (0, 1, 2):
                letters = 3 * count
                sets = sum((1, letters, letters * (letters - 1) // 2)[:lost + 1])
                board, paces = Board(3, all_pairs(3)), ((1, 1, 1),) * 5
                if 3 ** count * sets <= 3000:
                    self.assertEqual(len(Worlds(board, (0, 1, 2), paces, talk, lost=lost)), 3 ** count * sets)
                else:
                    refused = refused_of(self, TooMany, lambda: Worlds(board, (0, 1, 2), paces, talk, lost=lost))
                    self.assertEqual(refused.most, 3000)

    def test_at_the_edge(self):
        # Two hands and 4 looks: 4 letters, so 5 sets with at most one lost. 600 answers by 5 * 5 * 4 * 6.
        def looks(sizes):
            rows = []
            for beat, size in enumerate(sizes):
                lots = tuple((place,) for place in range(size - 1)) + (tuple(range(size - 1, 8)),)
                rows.append((beat, beat % 2, ("parts", lots)))
            return tuple(rows)

        board, lot, paces = Board(8, all_pairs(8)), tuple(range(8)), ((7,) * 8,) * 12
        self.assertEqual(len(Worlds(board, lot, paces, Talk(PAIR, looks((5, 5, 4, 6))))), 3000)
        self.assertEqual(len(Worlds(board, lot, paces, Talk(PAIR, looks((8, 5, 5, 5, 3))), lost=0)), 3000)
        refused_of(self, TooMany, lambda: Worlds(board, lot, paces, Talk(PAIR, looks((5, 5, 5, 5)))))
        refused_of(self, TooMany, lambda: Worlds(board, lot, paces, Talk(PAIR, looks((8, 8, 8, 6))), lost=0))

    def test_far_too_many_are_refused_soon(self):
        board, lot, paces = Board(8, all_pairs(8)), tuple(range(8)), ((7,) * 8,) * 12
        delays = chance_delays(random.Random(2), 4)
        for beats in ((0, 2, 4, 6, 8, 12), (12,) * 6, (0, 12, 12, 12, 12, 12), (7, 8, 9, 10, 11, 12)):
            talk = Talk(delays, tuple((beat, beat % 4, self.parts(8)) for beat in beats))
            if len(set(beats)) > 4:
                refused_of(self, TooMany, lambda: Worlds(board, lot, paces, talk, lost=2))
            else:
                self.assertEqual(len(Worlds(board, lot, paces, talk, lost=0)), 8 ** len(set(beats)))

    def test_far_too_many_walks_are_not(self):
        board, lot, paces = Board(8, all_pairs(8)), tuple(range(8)), ((7,) * 8,) * 12
        talk = Talk(PAIR, tuple((beat, beat % 2, LOOK) for beat in (0, 2, 5, 7, 11, 12)))
        self.assertEqual(len(Worlds(board, lot, paces, talk, lost=2)), 64 * 22)


class Making(unittest.TestCase):
    def test_lots_go_first(self):
        for many in range(1, 9):
            for lot in [()] + no_lots(many):
                for paces in ((), ((9,) * many,)):
                    refused_of(self, BadLot, lambda: Worlds(Board(many), lot, paces, Talk(PAIR, ((1, 0, ("x",)),)), lost=3))

    def test_then_paces(self):
        for many in range(1, 9):
            good = (1,) * many
            wrong = [(pace,) for pace in no_paces(many)] + [(good, pace, good) for pace in no_paces(many)]
            for paces in wrong + [(good,) * 13, (good,) * 20]:
                for talk in (Talk(PAIR, ()), Talk(PAIR, ((12, 0, ("x",)),))):
                    refused_of(self, BadPace, lambda: Worlds(Board(many), (0,), paces, talk, lost=3))
            self.assertEqual(len(Worlds(Board(many), (0,), (good,) * 12, Talk(PAIR, ()))), 1)

    def test_then_looks(self):
        for many in range(1, 9):
            for look in no_looks(many):
                for rows in (((0, 0, look),), ((0, 0, LOOK), (5, 1, look)), ((5, 0, LOOK), (5, 1, look))):
                    refused_of(self, BadLook, lambda: Worlds(Board(many), (0,), (), Talk(PAIR, rows), lost=-1))

    def test_then_beats_of_looks(self):
        for last in range(12):
            for beats in ((last + 1,), (0, last, last + 1, 12), (12,)):
                talk = Talk(PAIR, tuple((beat, 0, LOOK) for beat in beats))
                ask = lambda: Worlds(Board(2), (0,), ((1, 1),) * last, talk, lost=-1)
                first = min(beat for beat in beats if beat > last)
                self.assertEqual(refused_of(self, BadBeat, ask).beat, first)
            talk = Talk(PAIR, ((last, 0, LOOK),))
            self.assertEqual(len(Worlds(Board(2), (0,), ((1, 1),) * last, talk)), 2)

    def test_then_the_count_of_lost_letters(self):
        whole = ("parts", tuple((place,) for place in range(8)))
        talk = Talk(PAIR, tuple((beat, 0, whole) for beat in range(6)))
        for lost in (-1, 3, 4) + FAR_NUMBERS:
            ask = lambda: Worlds(Board(8, all_pairs(8)), (0,), ((1,) * 8,) * 12, talk, lost=lost)
            self.assertEqual(refused_of(self, BadCount, ask).count, lost)

    def test_then_how_many_there_are(self):
        whole = ("parts", tuple((place,) for place in range(8)))
        talk = Talk(PAIR, tuple((beat, 0, whole) for beat in range(6)))
        ask = lambda: Worlds(Board(8, all_pairs(8)), (0,), ((1,) * 8,) * 12, talk)
        self.assertEqual(refused_of(self, TooMany, ask).most, 3000)


class Alike(unittest.TestCase):
    def test_by_what_a_hand_sees(self):
        sizes = set()
        for plan in world_plans(2, 91):
            worlds, plain = made_worlds(plan), PlainWorlds(*plan)
            for hand, beat in itertools.product(range(len(plan[3])), range(len(plan[2]) + 1)):
                for world in plain.worlds[::max(1, len(plain.worlds) // 25)]:
                    told = worlds.alike(hand, beat, world)
                    self.assertIs(type(told), list)
                    self.assertEqual(told, plain.alike(hand, beat, world), (plan, hand, beat, world))
                    sizes.add(len(told))
        self.assertGreater(len(sizes), 10)

    def test_a_lost_letter_is_seen_by_its_not_coming(self):
        talk = Talk(((0, 2), (1, 0)), ((0, 0, LOOK),))
        worlds = Worlds(Board(2), (0, 1), ((0, 0),) * 3, talk)
        came, lost = ((1,), ()), ((1,), ((0, 1),))
        self.assertEqual(worlds.alike(1, 1, came), worlds.worlds())
        self.assertEqual(worlds.alike(1, 2, came), [came])
        self.assertEqual(worlds.alike(1, 2, lost), [((0,), ((0, 1),)), lost])
        for beat in range(4):
            self.assertEqual(worlds.alike(0, beat, came), [came, lost])

    def test_what_was_in_a_letter_is_seen(self):
        # Hand 2 gets the letter of look 1, with look 0 in it or without.
        delays = ((0, 1, 9), (9, 0, 1), (9, 9, 0))
        talk = Talk(delays, ((0, 0, ("in", ())), (1, 1, ("in", ()))))
        worlds = Worlds(Board(1), (0,), ((0,),) * 3, talk)
        whole, without = ((0, 0), ()), ((0, 0), ((0, 1),))
        self.assertIn(without, worlds.alike(2, 1, whole))
        self.assertNotIn(without, worlds.alike(2, 2, whole))

    def test_refusals_in_their_order(self):
        worlds = Worlds(Board(2), (0, 1), ((1, 1),) * 3, Talk(PAIR, ((0, 0, LOOK),)))
        world, none = ((1,), ()), ((2,), ())
        for hand in (-1, 2, 3) + FAR_NUMBERS:
            for beat, asked in itertools.product((0, -1, 4), (world, none)):
                self.assertEqual(refused_of(self, NoHand, lambda: worlds.alike(hand, beat, asked)).hand, hand)
                ask = lambda: worlds.other(hand, beat, asked, ("x",))
                self.assertEqual(refused_of(self, NoHand, ask).hand, hand)
        for beat in (-1, 4, 5, 12) + FAR_NUMBERS:
            for asked in (world, none):
                self.assertEqual(refused_of(self, BadBeat, lambda: worlds.alike(1, beat, asked)).beat, beat)
                self.assertEqual(refused_of(self, BadBeat, lambda: worlds.so(beat, asked, ("x",))).beat, beat)
                self.assertEqual(refused_of(self, BadBeat, lambda: worlds.other(1, beat, asked, ("x",))).beat, beat)
        for asked in self.no_worlds():
            refused_of(self, BadWorld, lambda: worlds.alike(1, 3, asked))
            for saying in (("x",), ("answer", 0, 1)):
                refused_of(self, BadWorld, lambda: worlds.so(3, asked, saying))
                refused_of(self, BadWorld, lambda: worlds.other(1, 3, asked, saying))
        refused_of(self, BadSaying, lambda: worlds.so(3, world, ("x",)))
        refused_of(self, BadSaying, lambda: worlds.other(1, 3, world, ("x",)))

    def no_worlds(self):
        return [
            ((2,), ()), ((-1,), ()), ((), ()), ((1, 1), ()), ((1,), ((0, 0),)), ((1,), ((1, 1),)), ((1,), ((0, 1), (0, 1))),
            (), ((1,),), ((1,), (), ()), ((1,), ((0, 1, 0),)), (1, ()), ((1,), (0, 1)), ((999999999999,), ()),
        ]

    def test_at_the_last_beat(self):
        worlds = Worlds(Board(2), (0, 1), ((1, 1),) * 3, Talk(PAIR, ((0, 0, LOOK),)))
        self.assertEqual(worlds.alike(1, 3, ((1,), ())), [((1,), ())])


if __name__ == "__main__":
    unittest.main()
