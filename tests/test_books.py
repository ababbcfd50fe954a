"""Books and answerers that hold and that don't, and books that are followed."""

import random
import unittest

from roamlook.boards import Board
from roamlook.books import answerer_holds, book_holds, follow
from roamlook.errors import BadBeat, BadLot, NoHand
from roamlook.games import Game

from game_samples import PlainGame, game_plans, great_plans, made_game
from samples import FAR_NUMBERS, all_lots, all_pairs, no_lots


def told_books(turns, seed):
    """Games with a beginning and the book that is told for it."""
    for plan in game_plans(turns, seed):
        game, plain = made_game(plan), PlainGame(*plan)
        for turn, lot in plain.states[::max(1, len(plain.states) // 8)]:
            rows = game.book(lot, turn=turn)
            if rows is not None:
                yield game, plain, turn, lot, rows


def told_answerers(turns, seed):
    """Games with a beginning, beats and the answerer that is told for it."""
    for plan in game_plans(turns, seed):
        game, plain = made_game(plan), PlainGame(*plan)
        for turn, lot in plain.states[::max(1, len(plain.states) // 6)]:
            for beats in (1, 2, 3, 5, 20):
                rows = game.answerer(lot, beats, turn=turn)
                if rows is not None:
                    yield game, plain, turn, lot, beats, rows


def bent_parts(row, at, worths):
    return [row[:at] + (worth,) + row[at + 1:] for worth in worths if worth != row[at]]


def bent_lots(plain, chance):
    lots = [(0, 0), (plain.many,), (-1, 0), tuple(range(plain.many + 1)), (999999999999,)]
    return lots + chance.sample([lot for lot in all_lots(plain.many) if lot], min(3, 2 ** plain.many - 1))


def bent_rows(rows, at, others):
    """The rows without this one, with it twice, and with each of the others in its place or beside it."""
    bent = [rows[:at] + rows[at + 1:], rows + [rows[at]]]
    for other in others:
        bent += [rows[:at] + [other] + rows[at + 1:], rows + [other]]
    return bent


def bent_books(plain, rows, chance):
    """Lists of rows that are near to a book."""
    bent = [[], rows + rows, rows[1:], rows[:-1], rows[::-1]]
    for at, row in enumerate(rows):
        others = bent_parts(row, 0, (-1, 0, 1, 2, 3, 999999999999))
        others += bent_parts(row, 1, bent_lots(plain, chance))
        others += bent_parts(row, 2, (-999999999999, -2, -1, 0, 1, 2, 3, 4, 5))
        bent += bent_rows(rows, at, others)
    return bent


def bent_answerers(plain, rows, chance):
    """Lists of rows that are near to an answerer."""
    bent = [[], rows + rows, rows[1:], rows[:-1], rows[::-1]]
    for at, row in enumerate(rows[:12]):
        others = bent_parts(row, 0, (-1, 0, 1, 2, 3))
        others += bent_parts(row, 1, bent_lots(plain, chance))
        others += bent_parts(row, 2, (-1, 0, 1, 2, 3, 20, 21, row[2] + 1, row[2] - 1))
        answers = [row[3][:-1], row[3] + (0,), ()]
        for number in range(len(row[3])):
            answers += bent_parts(row[3], number, (-1, 0, 1, 2, 3, 9))
        others += bent_parts(row, 3, answers)
        bent += bent_rows(rows, at, others)
    return bent


class BookHolds(unittest.TestCase):
    def test_told_books_hold(self):
        count = 0
        for game, plain, turn, lot, rows in told_books(2, 70):
            kept = list(rows)
            self.assertIs(book_holds(game, lot, rows, turn=turn), True)
            self.assertIs(book_holds(game, lot, rows[::-1], turn=turn), True)
            self.assertEqual(rows, kept)
            count += 1
        self.assertGreater(count, 100)

    def test_told_books_of_great_games_hold(self):
        for plan in great_plans(1, 71):
            game = made_game(plan)
            rows = game.book(tuple(range(8)), turn=1)
            if rows is not None:
                self.assertTrue(book_holds(game, tuple(range(8)), rows, turn=1))

    def test_bent_books(self):
        chance = random.Random(72)
        found = {True: 0, False: 0}
        for game, plain, turn, lot, rows in told_books(1, 73):
            for bent in bent_books(plain, rows, chance):
                holds = plain.book_holds(turn, lot, bent)
                found[holds] += 1
                kept = list(bent)
                self.assertIs(book_holds(game, lot, bent, turn=turn), holds, (lot, turn, bent))
                self.assertEqual(bent, kept)
        self.assertGreater(min(found.values()), 100)

    def test_a_row_for_the_beginning(self):
        game = Game(Board(2), (1, 1), ((), ()), wish=2)
        rows = [(0, (0,), -1), (1, (0,), -1)]
        self.assertTrue(book_holds(game, (0,), rows))
        self.assertTrue(book_holds(game, (0,), rows, turn=1))
        self.assertFalse(book_holds(game, (1,), rows))
        self.assertFalse(book_holds(game, (0,), []))
        self.assertFalse(book_holds(game, (0,), rows[:1]))
        self.assertFalse(book_holds(game, (0,), rows + rows[:1]))
        self.assertTrue(book_holds(game, (0,), rows + [(1, (1,), -1), (0, (1,), -1)]))
        self.assertFalse(book_holds(game, (0,), rows + [(1, (1,), -1)]))

    def test_rows_that_are_never_reached_must_hold_too(self):
        game = Game(Board(2), (1, 1), ((),))
        self.assertTrue(book_holds(game, (0,), [(0, (0,), -1)]))
        for row in ((0, (0, 1), -1), (0, (1,), 0), (1, (1,), -1), (-1, (1,), -1), (0, (2,), -1), (0, (1, 0), -1)):
            self.assertFalse(book_holds(game, (0,), [(0, (0,), -1), row]), row)
            self.assertFalse(book_holds(game, (0,), [row, (0, (0,), -1)]), row)

    def test_by_names_in_any_order(self):
        game = Game(Board(2), (1, 1), ((), ()))
        rows = [(0, (0,), -1), (1, (0,), -1)]
        self.assertTrue(book_holds(turn=1, rows=rows, lot=(0,), game=game))
        with self.assertRaises(TypeError):
            book_holds(game, (0,), rows, 1)


class AnswererHolds(unittest.TestCase):
    def test_told_answerers_hold(self):
        count = 0
        for game, plain, turn, lot, beats, rows in told_answerers(2, 74):
            kept = list(rows)
            self.assertIs(answerer_holds(game, lot, beats, rows, turn=turn), True)
            self.assertEqual(rows, kept)
            count += 1
        self.assertGreater(count, 100)

    def test_bent_answerers(self):
        chance = random.Random(75)
        found = {True: 0, False: 0}
        for game, plain, turn, lot, beats, rows in told_answerers(1, 76):
            for bent in bent_answerers(plain, rows, chance):
                holds = plain.answerer_holds(turn, lot, beats, bent)
                found[holds] += 1
                kept = list(bent)
                self.assertIs(answerer_holds(game, lot, beats, bent, turn=turn), holds, (lot, beats, turn, bent))
                self.assertEqual(bent, kept)
        self.assertGreater(min(found.values()), 100)

    def test_the_beginning_with_its_beats(self):
        game = Game(Board(3, [(0, 1), (1, 2)]), (1, 1, 1), ((),), wish=2)
        rows = [(0, (0,), 3, (0,)), (0, (0, 1), 2, (0,)), (0, (0, 1, 2), 1, (0,))]
        self.assertTrue(answerer_holds(game, (0,), 3, rows))
        self.assertTrue(answerer_holds(game, (0, 1), 2, rows))
        self.assertFalse(answerer_holds(game, (0,), 2, rows))
        self.assertFalse(answerer_holds(game, (0,), 4, rows))
        self.assertFalse(answerer_holds(game, (1,), 3, rows))
        for at in range(3):
            self.assertFalse(answerer_holds(game, (0,), 3, rows[:at] + rows[at + 1:]))
        self.assertTrue(answerer_holds(game, (0,), 3, rows + [(0, (0, 1, 2), 30, (0,))]))
        self.assertFalse(answerer_holds(game, (0,), 3, rows + [(0, (0, 1, 2), 0, (0,))]))
        self.assertFalse(answerer_holds(game, (0,), 3, rows + [(0, (0, 1, 2), 2, (1,))]))
        self.assertFalse(answerer_holds(game, (0,), 3, rows + [(0, (0, 1, 2), 2, (0, 0))]))

    def test_one_beat_must_break_the_wish(self):
        game = Game(Board(2), (1, 1), ((),))
        self.assertFalse(answerer_holds(game, (0,), 1, [(0, (0,), 1, (0,))]))
        self.assertFalse(answerer_holds(game, (0,), 1, [(0, (0,), 1, (0,)), (0, (0,), 0, (0,))]))
        self.assertTrue(answerer_holds(game, (0, 1), 1, [(0, (0, 1), 1, (0,))]))

    def test_many_rows(self):
        hands = (tuple((("in", (place,)), 0) for place in range(4)),) * 3
        game = Game(Board(8, all_pairs(8)), (0,) * 8, hands, wish=1)
        rows = []
        for turn in range(3):
            for lot in all_lots(8):
                if len(set(lot) - {0, 1, 2, 3}) > 1:
                    rows.extend((turn, lot, beats, (0,) * 5) for beats in range(1, 21))
        self.assertGreater(len(rows), 10000)
        self.assertTrue(answerer_holds(game, tuple(range(8)), 20, rows))
        self.assertFalse(answerer_holds(game, tuple(range(8)), 20, rows + rows[-1:]))

    def test_by_names_in_any_order(self):
        game = Game(Board(2), (1, 1), ((), ()))
        rows = [(1, (0, 1), 1, (0,))]
        self.assertTrue(answerer_holds(turn=1, rows=rows, beats=1, lot=(0, 1), game=game))
        with self.assertRaises(TypeError):
            answerer_holds(game, (0, 1), 1, rows, 1)


def plain_follow(plain, turn, lot, rows, answers):
    """A book followed by the words of the interface."""
    told = []
    for answer in answers:
        choices = [row[2] for row in rows if row[:2] == (turn, lot)]
        if not choices or choices[0] not in plain.choices(turn):
            return told
        outcomes = plain.outcomes(turn, lot, choices[0])
        if answer not in outcomes:
            return told
        narrow, broken, (turn, lot) = outcomes[answer]
        told.append((choices[0], narrow, lot))
    return told


class Follow(unittest.TestCase):
    def test_told_and_bent_books(self):
        chance = random.Random(77)
        lengths = {}
        for game, plain, turn, lot, rows in told_books(1, 78):
            for bent in [rows] + chance.sample(bent_books(plain, rows, chance), 8):
                answers = [chance.choice((0, 0, 1, 1, 2)) for beat in range(chance.randint(0, 9))]
                kept, kept_answers = list(bent), list(answers)
                told = follow(game, lot, bent, answers, turn=turn)
                self.assertIs(type(told), list)
                self.assertEqual(told, plain_follow(plain, turn, lot, bent, answers))
                self.assertEqual((bent, answers), (kept, kept_answers))
                lengths[len(told)] = lengths.get(len(told), 0) + 1
        self.assertTrue({0, 1, 2, 3, 4, 5} <= set(lengths), lengths)

    def test_beat_by_beat(self):
        look = (("in", (0,)), 5)
        game = Game(Board(3, [(0, 1), (1, 2)]), (1, 1, 1), ((look,), ()), wish=2)
        rows = [(0, (0,), -1), (1, (0, 1), -1), (0, (0, 1, 2), 0), (1, (1, 2), -1), (0, (1, 2), 5)]
        first = (-1, (0,), (0, 1))
        second = (-1, (0, 1), (0, 1, 2))
        self.assertEqual(follow(game, (0,), rows, []), [])
        self.assertEqual(follow(game, (0,), rows, [0]), [first])
        self.assertEqual(follow(game, (0,), rows, [1]), [])
        self.assertEqual(follow(game, (0,), rows, [0, 0]), [first, second])
        # The row leads on by what is answered; (0, (1, 2)) has a choice that is none of the hand's.
        self.assertEqual(follow(game, (0,), rows, [0, 0, 0, 0, 0]), [first, second, (0, (1, 2), (1, 2)), (-1, (1, 2), (1, 2))])
        self.assertEqual(follow(game, (0,), rows, [0, 0, 1, 0]), [first, second, (0, (0,), (0, 1)), (-1, (0, 1), (0, 1, 2))])
        self.assertEqual(follow(game, (0,), rows, [0, 0, 2, 0]), [first, second])
        self.assertEqual(follow(game, (1, 2), rows, [0], turn=1), [(-1, (1, 2), (1, 2))])
        self.assertEqual(follow(game, (2,), rows, [0]), [])

    def test_of_alike_rows_the_first(self):
        game = Game(Board(2), (0, 0), (((("in", (0,)), 0),),))
        self.assertEqual(follow(game, (0, 1), [(0, (0, 1), 0), (0, (0, 1), -1)], [0, 0]), [(0, (1,), (1,))])
        self.assertEqual(follow(game, (0, 1), [(0, (0, 1), -1), (0, (0, 1), 0)], [0]), [(-1, (0, 1), (0, 1))])
        self.assertEqual(follow(game, (0, 1), [(0, (0, 1), 1), (0, (0, 1), 0)], [0]), [])
        self.assertEqual(follow(game, (0, 1), [(0, (0, 1), -2), (0, (0, 1), 0)], [0]), [])

    def test_a_broken_wish_changes_nothing_of_it(self):
        game = Game(Board(3), (0, 0, 0), ((),), wish=1)
        rows = [(0, (0, 1, 2), -1)]
        self.assertEqual(follow(game, (0, 1, 2), rows, [0] * 7), [(-1, (0, 1, 2), (0, 1, 2))] * 7)

    def test_by_names_in_any_order(self):
        game = Game(Board(2), (1, 1), ((), ()))
        told = follow(turn=1, answers=[0], rows=[(1, (0,), -1)], lot=(0,), game=game)
        self.assertEqual(told, [(-1, (0,), (0,))])
        with self.assertRaises(TypeError):
            follow(game, (0,), [], [], 1)


class Refusals(unittest.TestCase):
    def games(self):
        for many in range(1, 9):
            for hands in (1, 2, 3):
                yield many, hands, Game(Board(many, all_pairs(many)[:3]), (1,) * many, ((),) * hands, wish=2)

    def asks(self, game, lot, beats, turn):
        return (
            lambda: book_holds(game, lot, [], turn=turn), lambda: follow(game, lot, [], [], turn=turn),
            lambda: answerer_holds(game, lot, beats, [], turn=turn),
        )

    def test_lots_go_first(self):
        for many, hands, game in self.games():
            for lot in [()] + no_lots(many):
                for beats, turn in ((1, 0), (0, 0), (21, -1), (1, hands)):
                    for ask in self.asks(game, lot, beats, turn):
                        with self.assertRaises(BadLot):
                            ask()

    def test_then_beats(self):
        for many, hands, game in self.games():
            for beats in (0, -1, 21, 22, 300) + FAR_NUMBERS[:2] + FAR_NUMBERS[-2:]:
                for turn in (0, -1, hands):
                    with self.assertRaises(BadBeat) as refused:
                        answerer_holds(game, (0,), beats, [], turn=turn)
                    self.assertEqual(refused.exception.beat, beats)
            for beats in (1, 20):
                self.assertFalse(answerer_holds(game, (0,), beats, []))

    def test_then_turns(self):
        for many, hands, game in self.games():
            for turn in (-1, hands, hands + 1, -hands) + FAR_NUMBERS:
                for ask in self.asks(game, (0,), 1, turn):
                    with self.assertRaises(NoHand) as refused:
                        ask()
                    self.assertEqual(refused.exception.hand, turn)


if __name__ == "__main__":
    unittest.main()
