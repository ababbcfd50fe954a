"""Games: how long wishes last, for how many beats they are kept, prices, books and answerers."""

import random
import unittest

from roamlook.boards import Board
from roamlook.errors import BadBeat, BadHands, BadLot, BadPace, BadWish, NoHand
from roamlook.games import MOST_GAME, Game

from game_samples import PlainGame, game_plans, great_plans, made_game
from look_samples import no_looks
from samples import FAR_NUMBERS, all_pairs, no_lots, no_paces


class Making(unittest.TestCase):
    def test_hands_and_wishes(self):
        board = Board(2, [(0, 1)])
        look = (("in", (0,)), 99)
        for count in (1, 2, 3):
            for hand in ((), (look,), (look,) * 4):
                for wish in range(1, 9):
                    self.assertEqual(Game(board, (1, 1), (hand,) * count, wish=wish).turns(), count)
                    self.assertEqual(Game(board, (1, 1), [hand] * count, wish=wish).turns(), count)

    def test_most_game(self):
        self.assertEqual(MOST_GAME, 20)

    def test_the_wish_is_for_one_place_where_none_is_handed_in(self):
        board = Board(2)
        self.assertEqual(Game(board, (1, 1), ((),)).lasting((0, 1)), 0)
        self.assertIsNone(Game(board, (1, 1), ((),), wish=2).lasting((0, 1)))
        with self.assertRaises(TypeError):
            Game(board, (1, 1), ((),), 2)

    def test_by_names_in_any_order(self):
        game = Game(wish=2, hands=((),), pace=(1, 1), board=Board(2))
        self.assertEqual(game.turns(), 1)
        self.assertIsNone(game.lasting(turn=0, lot=(0,)))
        self.assertTrue(game.keeps(turn=0, beats=3, lot=(0,)))
        self.assertEqual(game.price(beats=3, lot=(0,), turn=0), 0)
        self.assertEqual(game.book(turn=0, lot=(0,)), [(0, (0,), -1)])
        self.assertIsNone(game.answerer(turn=0, beats=3, lot=(0,)))

    def test_turn_by_its_name_alone(self):
        game = Game(Board(1), (1,), ((),))
        for ask in (
            lambda: game.lasting((0,), 0), lambda: game.keeps((0,), 1, 0), lambda: game.price((0,), 1, 0),
            lambda: game.book((0,), 0), lambda: game.answerer((0,), 1, 0),
        ):
            with self.assertRaises(TypeError):
                ask()

    def test_bad_paces_go_first(self):
        for many in range(1, 9):
            for pace in no_paces(many):
                for hands in (((),), (), ((("x",),),)):
                    for wish in (1, 0):
                        with self.assertRaises(BadPace):
                            Game(Board(many), pace, hands, wish=wish)

    def test_how_many_hands(self):
        for form in (tuple, list):
            for count in (0, 4, 5, 300):
                for wish in (1, 0, 9):
                    for hand in ((), (("in", (9,)), 0)):
                        with self.assertRaises(BadHands) as refused:
                            Game(Board(2), (1, 1), form([hand] * count), wish=wish)
                        self.assertEqual(refused.exception.at, count)

    def test_the_first_hand_that_is_none(self):
        for many in range(1, 9):
            good = (("in", (0,)), 3)
            bad = [((look, 0),) for look in no_looks(many)] + [(good, (look, 0)) for look in no_looks(many)[::5]]
            bad += [((("in", (0,)), price),) for price in (-1, 100, 101) + FAR_NUMBERS[:3] + FAR_NUMBERS[-2:]]
            bad += [(good,) * 5, (good,) * 6, ((),), ((("in", (0,)),),), (good + (1,),)]
            for hand in bad:
                for hands, at in (((hand,), 0), (((), hand), 1), (((good,), (), hand), 2), ((hand, hand, ()), 0)):
                    for wish in (1, 0):
                        with self.assertRaises(BadHands, msg=hand) as refused:
                            Game(Board(many), (1,) * many, hands, wish=wish)
                        self.assertEqual(refused.exception.at, at)

    def test_bad_wishes(self):
        for wish in (0, -1) + FAR_NUMBERS:
            with self.assertRaises(BadWish) as refused:
                Game(Board(2), (1, 1), ((),), wish=wish)
            self.assertEqual(refused.exception.most, wish)

    def test_hands_are_kept_as_a_copy(self):
        hands = [((("parts", ((0,), (1,))), 4),)]
        game = Game(Board(2, all_pairs(2)), (1, 1), hands)
        self.assertIsNone(game.lasting((0, 1)))
        hands[0] = ()
        hands.append(())
        self.assertEqual(game.turns(), 1)
        self.assertIsNone(game.lasting((0, 1)))
        self.assertEqual(game.price((0, 1), 2), 8)


class Reckonings(unittest.TestCase):
    def test_lasting_and_keeps(self):
        seen = set()
        for plan in game_plans():
            game, plain = made_game(plan), PlainGame(*plan)
            lasting = plain.all_lasting()
            for (turn, lot), beats in lasting.items():
                self.assertEqual(game.lasting(lot, turn=turn), beats, (plan, turn, lot))
                seen.add(beats)
            for beats in (0, 1, 2, 3, 5, 20):
                kept = plain.kept_for(beats)
                for turn, lot in plain.states[::3]:
                    self.assertIs(game.keeps(lot, beats, turn=turn), (turn, lot) in kept)
        self.assertTrue({None, 0, 1, 2, 3, 4} <= seen, seen)

    def test_prices(self):
        for plan in game_plans(1, 52):
            game, plain = made_game(plan), PlainGame(*plan)
            for beats in (0, 1, 2, 3, 4, 7, 20):
                for (turn, lot), price in list(plain.all_prices(beats).items())[::2]:
                    self.assertEqual(game.price(lot, beats, turn=turn), price, (plan, turn, lot, beats))

    def test_a_chase_on_a_line(self):
        board = Board(3, [(0, 1), (1, 2)])
        pair = (("in", (0,)), 5)
        game = Game(board, (1, 1, 1), ((pair,),), wish=2)
        # From place 0: unlooked at beat 0, both left at beat 1, three at beat 2, which the look makes one or two.
        self.assertEqual(game.lasting((0, 1, 2)), None)
        self.assertEqual([game.price((0,), beats) for beats in range(5)], [0, 0, 0, 5, 5])
        self.assertIsNone(Game(board, (1, 1, 1), ((pair,),), wish=1).price((0,), 4))
        self.assertEqual(Game(board, (1, 1, 1), ((pair,),), wish=1).lasting((0,)), 2)
        self.assertEqual(Game(board, (1, 1, 1), ((),), wish=1).lasting((0,)), 1)
        self.assertEqual(Game(board, (1, 1, 1), ((),), wish=2).lasting((0,)), 2)

    def test_turns_go_round(self):
        board = Board(2, all_pairs(2))
        sharp = ((("in", (0,)), 1),)
        game = Game(board, (1, 1), (sharp, sharp, ()))
        self.assertEqual([game.lasting((0, 1), turn=turn) for turn in range(3)], [2, 1, 0])
        self.assertEqual([game.lasting((0,), turn=turn) for turn in range(3)], [2, 1, 3])
        self.assertEqual(game.lasting((0, 1)), game.lasting((0, 1), turn=0))
        self.assertEqual([game.price((0, 1), beats) for beats in range(4)], [0, 1, 2, None])

    def test_the_dearer_look_may_be_worth_it(self):
        board = Board(3)
        hands = (((("parts", ((0,), (1,), (2,))), 7), (("in", (0,)), 2)),)
        game = Game(board, (0, 0, 0), hands)
        self.assertEqual(game.price((0, 1, 2), 1), 7)
        self.assertEqual(game.price((0, 1), 1), 2)
        self.assertEqual(game.price((1, 2), 1), 7)
        self.assertEqual(Game(board, (0, 0, 0), hands, wish=2).price((0, 1, 2), 1), 2)
        self.assertEqual(Game(board, (0, 0, 0), hands, wish=3).price((0, 1, 2), 20), 0)

    def test_great_games(self):
        for plan in great_plans(1):
            game, plain = made_game(plan), PlainGame(*plan)
            lasting, prices = plain.all_lasting(), plain.all_prices(20)
            for turn, lot in plain.states[::20]:
                self.assertEqual(game.lasting(lot, turn=turn), lasting[turn, lot])
                self.assertEqual(game.price(lot, 20, turn=turn), prices[turn, lot])


class Laws(unittest.TestCase):
    def test_prices_are_never_less_for_more_beats(self):
        for plan in game_plans(1, 53):
            game, plain = made_game(plan), PlainGame(*plan)
            for turn, lot in plain.states[::7]:
                prices = [game.price(lot, beats, turn=turn) for beats in range(0, 21, 2)]
                told = [price for price in prices if price is not None]
                self.assertEqual(told, sorted(told))
                self.assertEqual(prices[:len(told)], told)
                for beats, price in zip(range(0, 21, 2), prices):
                    self.assertIs(game.keeps(lot, beats, turn=turn), price is not None)

    def no_less(self, one, other):
        """Whether the other lasts no less than the one, None being for ever."""
        return other is None or (one is not None and one <= other)

    def test_a_wish_for_more_places_lasts_no_less(self):
        for many, ways, pace, hands, wish in game_plans(1, 54):
            for turn in range(len(hands)):
                lot = tuple(range(many))
                lasting = [made_game((many, ways, pace, hands, most)).lasting(lot, turn=turn) for most in range(1, 9)]
                self.assertTrue(all(self.no_less(one, other) for one, other in zip(lasting, lasting[1:])), lasting)
                self.assertIsNone(lasting[-1])

    def test_more_looks_last_no_less(self):
        chance = random.Random(55)
        for many, ways, pace, hands, wish in game_plans(2, 56):
            at = chance.randrange(len(hands))
            fewer = hands[:at] + (hands[at][1:],) + hands[at + 1:]
            for turn in range(len(hands)):
                for lot in ((0,), tuple(range(many))):
                    one = made_game((many, ways, pace, fewer, wish)).lasting(lot, turn=turn)
                    other = made_game((many, ways, pace, hands, wish)).lasting(lot, turn=turn)
                    self.assertTrue(self.no_less(one, other))

    def test_asked_again_the_same_is_told(self):
        for plan in game_plans(1, 57):
            game, other = made_game(plan), made_game(plan)
            lot = tuple(range(plan[0]))
            for ask in (game, other, game):
                told = (game.lasting(lot), game.price(lot, 5), game.book(lot), game.answerer(lot, 5))
                self.assertEqual((ask.lasting(lot), ask.price(lot, 5), ask.book(lot), ask.answerer(lot, 5)), told)


class Books(unittest.TestCase):
    def test_a_book_just_where_the_wish_lasts_for_ever(self):
        found = {True: 0, False: 0}
        for plan in game_plans(2, 58) + great_plans(1, 59):
            game, plain = made_game(plan), PlainGame(*plan)
            lasting = plain.all_lasting()
            for turn, lot in plain.states[::max(1, len(plain.states) // 30)]:
                rows = game.book(lot, turn=turn)
                self.assertEqual(rows is not None, lasting[turn, lot] is None)
                found[rows is not None] += 1
                if rows is not None:
                    self.assertIs(type(rows), list)
                    self.assertTrue(plain.book_holds(turn, lot, rows), (plan, turn, lot, rows))
        self.assertGreater(min(found.values()), 100)

    def test_told_lists_are_new_ones(self):
        game = Game(Board(2, [(0, 1)]), (1, 1), ((),), wish=2)
        told = game.book((0,))
        kept = list(told)
        told.clear()
        self.assertEqual(game.book((0,)), kept)
        self.assertEqual(kept, [(0, (0,), -1), (0, (0, 1), -1)])


class Answerers(unittest.TestCase):
    def test_an_answerer_just_where_the_wish_is_not_kept(self):
        found = {True: 0, False: 0}
        for plan in game_plans(2, 60) + great_plans(1, 61):
            game, plain = made_game(plan), PlainGame(*plan)
            lasting = plain.all_lasting()
            for turn, lot in plain.states[::max(1, len(plain.states) // 20)]:
                for beats in (1, 2, 3, 4, 5, 19, 20):
                    rows = game.answerer(lot, beats, turn=turn)
                    kept = lasting[turn, lot] is None or lasting[turn, lot] >= beats
                    self.assertEqual(rows is None, kept)
                    found[kept] += 1
                    if rows is not None:
                        self.assertIs(type(rows), list)
                        self.assertTrue(plain.answerer_holds(turn, lot, beats, rows), (plan, turn, lot, beats, rows))
        self.assertGreater(min(found.values()), 100)

    def test_rows(self):
        board = Board(3, [(0, 1), (1, 2)])
        game = Game(board, (1, 1, 1), ((),), wish=2)
        self.assertIsNone(game.answerer((0,), 2))
        self.assertEqual(
            game.answerer((0,), 3), [(0, (0,), 3, (0,)), (0, (0, 1), 2, (0,)), (0, (0, 1, 2), 1, (0,))],
        )
        told = game.answerer((0,), 4)
        kept = list(told)
        told.clear()
        self.assertEqual(game.answerer((0,), 4), kept)

    def test_of_none_first_then_of_the_looks(self):
        hands = (((("parts", ((2,), (0, 1))), 0), (("in", (1, 2)), 0)),)
        game = Game(Board(3), (0, 0, 0), hands)
        self.assertEqual(game.answerer((0, 1, 2), 1), [(0, (0, 1, 2), 1, (0, 1, 1))])


class Refusals(unittest.TestCase):
    def asks(self, game, lot, beats, turn):
        return (
            lambda: game.keeps(lot, beats, turn=turn), lambda: game.price(lot, beats, turn=turn),
            lambda: game.answerer(lot, beats, turn=turn),
        )

    def unbeaten(self, game, lot, turn):
        return (lambda: game.lasting(lot, turn=turn), lambda: game.book(lot, turn=turn))

    def games(self):
        for many in range(1, 9):
            for hands in (1, 2, 3):
                yield many, hands, Game(Board(many, all_pairs(many)[:3]), (1,) * many, ((),) * hands, wish=2)

    def test_lots_go_first(self):
        for many, hands, game in self.games():
            for lot in [()] + no_lots(many):
                for beats, turn in ((1, 0), (-1, 0), (21, -1), (1, hands)):
                    for ask in self.asks(game, lot, beats, turn) + self.unbeaten(game, lot, turn):
                        with self.assertRaises(BadLot):
                            ask()

    def test_then_beats(self):
        for many, hands, game in self.games():
            for beats in (-1, 21, 22) + FAR_NUMBERS[:2] + FAR_NUMBERS[-2:]:
                for turn in (0, -1, hands):
                    for ask in self.asks(game, (0,), beats, turn):
                        with self.assertRaises(BadBeat) as refused:
                            ask()
                        self.assertEqual(refused.exception.beat, beats)
            for turn in (0, hands):
                with self.assertRaises(BadBeat) as refused:
                    game.answerer((0,), 0, turn=turn)
                self.assertEqual(refused.exception.beat, 0)

    def test_then_turns(self):
        for many, hands, game in self.games():
            for turn in (-1, hands, hands + 1, -hands) + FAR_NUMBERS:
                for ask in self.asks(game, (0,), 1, turn) + self.unbeaten(game, (0,), turn):
                    with self.assertRaises(NoHand) as refused:
                        ask()
                    self.assertEqual(refused.exception.hand, turn)

    def test_beats_that_are_let(self):
        game = Game(Board(2), (1, 1), ((),))
        for beats in range(21):
            self.assertIs(game.keeps((0,), beats), True)
            self.assertEqual(game.price((0,), beats), 0)
            self.assertIs(game.keeps((0, 1), beats), beats == 0)
            self.assertEqual(game.price((0, 1), beats), 0 if beats == 0 else None)
        for beats in range(1, 21):
            self.assertIsNone(game.answerer((0,), beats))
            self.assertEqual(game.answerer((0, 1), beats), [(0, (0, 1), beats, (0,))])


if __name__ == "__main__":
    unittest.main()
