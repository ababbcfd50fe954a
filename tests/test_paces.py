"""Paces, steps, and the lots behind and ahead of a lot."""

import itertools
import random
import unittest

from roamlook.boards import MOST_PLACES, Board
from roamlook.errors import BadLot, BadPace, NoPlace
from roamlook.paces import MOST_BEATS, MOST_PACE, ahead, before, even, is_pace, least_pace, step

from samples import (
    FAR_NUMBERS, all_lots, all_pairs, board_of, few_lots, few_shapes, no_lots, no_paces, plain_fars, plain_steps,
    sample_paces, sample_shapes,
)


class Even(unittest.TestCase):
    def test_most(self):
        self.assertEqual(MOST_PACE, 7)
        self.assertEqual(MOST_BEATS, 12)
        # least_pace relies on it that no place is further from another than the longest pace.
        self.assertEqual(MOST_PACE, MOST_PLACES - 1)

    def test_even(self):
        for many in range(1, 9):
            for number in range(8):
                self.assertEqual(even(Board(many), number), (number,) * many)
        self.assertEqual(even(number=2, board=Board(3)), (2, 2, 2))

    def test_other_numbers_are_refused(self):
        for number in (-1, 8) + FAR_NUMBERS + (True,):
            with self.assertRaises(BadPace):
                even(Board(2), number)

    def test_is_pace(self):
        for many in range(1, 9):
            for pace in sample_paces(many):
                self.assertTrue(is_pace(Board(many), pace))
            for pace in no_paces(many) + [[1] * many, (True,) * many, ("1",) * many, None, 1]:
                self.assertFalse(is_pace(Board(many), pace), pace)


class Steps(unittest.TestCase):
    def test_step_and_before_of_all_lots(self):
        for many, ways in sample_shapes():
            board = Board(many, ways)
            for pace in sample_paces(many, 2):
                steps = plain_steps(many, ways, pace)
                for lot in few_lots(many):
                    behind = sorted({end for start, end in steps if start in lot})
                    leading = sorted({start for start, end in steps if end in lot})
                    self.assertEqual(step(board, pace, lot), tuple(behind))
                    self.assertEqual(before(board, pace, lot), tuple(leading))

    def test_the_pace_is_that_of_the_place_left(self):
        board = Board(3, [(0, 1), (1, 2)])
        self.assertEqual(step(board, (2, 0, 7), (0,)), (0, 1, 2))
        self.assertEqual(step(board, (0, 7, 7), (0,)), (0,))
        self.assertEqual(before(board, (2, 0, 7), (2,)), (0, 2))
        self.assertEqual(before(board, (1, 1, 0), (2,)), (1, 2))

    def test_none_and_all(self):
        for many, ways in few_shapes():
            board, whole = Board(many, ways), tuple(range(many))
            for pace in sample_paces(many):
                for move in (step, before):
                    self.assertEqual(move(board, pace, ()), ())
                    self.assertEqual(move(board, pace, whole), whole)

    def test_by_names_in_any_order(self):
        board = Board(2, [(0, 1)])
        self.assertEqual(step(lot=(0,), pace=(1, 1), board=board), (0, 1))
        self.assertEqual(before(lot=(1,), pace=(1, 1), board=board), (0, 1))

    def test_refused_paces_and_lots(self):
        for many in range(1, 9):
            board = Board(many, all_pairs(many)[:3])
            good = even(board, 1)
            for move in (step, before):
                for pace in no_paces(many):
                    for lot in ((), (0,), (many,)):
                        with self.assertRaises(BadPace):
                            move(board, pace, lot)
                for lot in no_lots(many):
                    with self.assertRaises(BadLot):
                        move(board, good, lot)

    def test_kinds_of_what_is_told(self):
        board = Board(3, [(0, 1)])
        self.assertIs(type(even(board, 1)), tuple)
        self.assertIs(type(step(board, (1, 1, 1), (0,))), tuple)
        self.assertIs(type(before(board, (1, 1, 1), (0,))), tuple)
        self.assertIs(type(least_pace(board, [])), tuple)
        self.assertIs(type(ahead(board, (0,), [])), list)


def put_together(one, other):
    return tuple(sorted(set(one) | set(other)))


class StepLaws(unittest.TestCase):
    """What steps there and back promise of one another."""

    def samples(self):
        for many, ways in few_shapes():
            for pace in sample_paces(many, 2):
                yield Board(many, ways), pace, few_lots(many)

    def test_behind_meets_just_where_ahead_meets(self):
        for board, pace, lots in self.samples():
            for one, other in itertools.product(lots, lots):
                there = set(step(board, pace, one)) & set(other)
                back = set(before(board, pace, other)) & set(one)
                self.assertEqual(bool(there), bool(back))

    def test_lots_put_together(self):
        for board, pace, lots in self.samples():
            for one, other in itertools.product(lots, lots):
                for move in (step, before):
                    both = put_together(move(board, pace, one), move(board, pace, other))
                    self.assertEqual(move(board, pace, put_together(one, other)), both)

    def test_parts_of_lots(self):
        for board, pace, lots in self.samples():
            for lot in lots:
                for move in (step, before):
                    whole = set(move(board, pace, lot))
                    for part in (lot[1:], lot[:-1], lot[::2]):
                        self.assertLessEqual(set(move(board, pace, part)), whole)

    def test_staying_is_a_step(self):
        for board, pace, lots in self.samples():
            for lot in lots:
                self.assertLessEqual(set(lot), set(step(board, pace, lot)))
                self.assertLessEqual(set(lot), set(before(board, pace, lot)))
                self.assertEqual(step(board, even(board, 0), lot), lot)
                self.assertEqual(before(board, even(board, 0), lot), lot)

    def test_longer_paces(self):
        for board, pace, lots in self.samples():
            longer = tuple(min(number + 1, 7) for number in pace)
            for lot in lots:
                for move in (step, before):
                    self.assertLessEqual(set(move(board, pace, lot)), set(move(board, longer, lot)))

    def test_all_renamed(self):
        for board, pace, lots in self.samples():
            order = tuple(random.Random(len(board)).sample(range(len(board)), len(board)))
            renamed = board.renamed(order)
            new_pace = tuple(pace[order.index(place)] for place in range(len(board)))
            for lot in lots:
                for move in (step, before):
                    new_lot = tuple(sorted(order[place] for place in lot))
                    told = tuple(sorted(order[place] for place in move(board, pace, lot)))
                    self.assertEqual(move(renamed, new_pace, new_lot), told)

    def test_the_turned_board_with_even_paces(self):
        for shape in few_shapes():
            board = board_of(shape)
            for number in range(8):
                pace = even(board, number)
                for lot in few_lots(len(board)):
                    self.assertEqual(step(board.turned(), pace, lot), before(board, pace, lot))
                    self.assertEqual(before(board.turned(), pace, lot), step(board, pace, lot))

    def test_asked_again_the_same_is_told(self):
        for board, pace, lots in self.samples():
            for lot in lots[:3]:
                self.assertEqual(step(board, pace, lot), step(board, pace, lot))
                self.assertEqual(before(board, pace, lot), before(board, pace, lot))


class LeastPace(unittest.TestCase):
    def test_least_numbers(self):
        chance = random.Random(5)
        for many, ways in sample_shapes():
            board, fars = Board(many, ways), plain_fars(many, ways)
            can = [(one, other) for one in range(many) for other in range(many) if fars[one][other] is not None]
            for size in (0, 1, 2, 5):
                steps = [chance.choice(can) for turn in range(size)]
                told = tuple(
                    max([fars[one][other] for one, other in steps if one == place], default=0)
                    for place in range(many)
                )
                self.assertEqual(least_pace(board, steps), told)

    def test_of_it_all_are_steps_and_of_none_lesser(self):
        board = Board(5, [(0, 1), (1, 2), (2, 3), (3, 4), (4, 0)])
        steps = [(0, 2), (0, 1), (3, 3), (4, 2)]
        pace = least_pace(board, steps)
        self.assertEqual(pace, (2, 0, 0, 0, 3))
        for one, other in steps:
            self.assertIn(other, step(board, pace, (one,)))

    def test_seven_ways_are_a_step(self):
        board = Board(8, [(place, place + 1) for place in range(7)])
        self.assertEqual(least_pace(board, [(0, 7)]), (7, 0, 0, 0, 0, 0, 0, 0))

    def test_none_where_no_ways_lead(self):
        board = Board(3, [(0, 1), (1, 2)])
        for steps in ([(1, 0)], [(0, 1), (2, 0)], [(2, 1), (0, 2)]):
            self.assertIsNone(least_pace(board, steps))

    def test_no_place_goes_ahead_of_none(self):
        board = Board(3, [(0, 1), (1, 2)])
        for steps, place in (
            ([(1, 0), (3, 0)], 3), ([(1, 0), (0, -1)], -1), ([(4, -1)], 4), ([(0, 5), (6, 0)], 5),
            ([(0, 1), (999999999999, 1), (3, 3)], 999999999999), ([(2, 0), (1, 3), (0, 1)], 3),
        ):
            with self.assertRaises(NoPlace) as refused:
                least_pace(board, steps)
            self.assertEqual(refused.exception.place, place)

    def test_by_names_and_unchanged(self):
        steps = [(0, 1), (1, 0)]
        board = Board(2, [(0, 1), (1, 0)])
        self.assertEqual(least_pace(steps=steps, board=board), (1, 1))
        self.assertEqual(steps, [(0, 1), (1, 0)])


class Ahead(unittest.TestCase):
    def test_rows_of_lots(self):
        for many, ways in few_shapes():
            board, paces = Board(many, ways), sample_paces(many)[:5]
            for lot in few_lots(many):
                here, told = set(lot), [lot]
                for pace in paces:
                    here = {end for start, end in plain_steps(many, ways, pace) if start in here}
                    told.append(tuple(sorted(here)))
                self.assertEqual(ahead(board, lot, paces), told)
                self.assertEqual(ahead(board, lot, tuple(paces)), told)

    def test_no_paces_and_many(self):
        board = Board(3, [(0, 1), (1, 2)])
        self.assertEqual(ahead(board, (1,), []), [(1,)])
        self.assertEqual(ahead(board, (), ()), [()])
        self.assertEqual(ahead(board, (0,), [(1, 1, 1)] * 13), [(0,), (0, 1)] + [(0, 1, 2)] * 12)
        self.assertEqual(ahead(paces=[(1, 1, 1)], lot=(1,), board=board), [(1,), (1, 2)])

    def test_refused_lot_goes_ahead_of_pace(self):
        for many in range(1, 9):
            board = Board(many)
            for lot in no_lots(many):
                for paces in ([], [even(board, 1)], no_paces(many)):
                    with self.assertRaises(BadLot):
                        ahead(board, lot, paces)

    def test_refused_pace_at_any_place(self):
        for many in range(1, 9):
            board = Board(many)
            for pace in no_paces(many):
                for at in range(3):
                    paces = [even(board, 1)] * at + [pace] + [even(board, 2)]
                    for lot in ((), (0,)):
                        with self.assertRaises(BadPace):
                            ahead(board, lot, paces)

    def test_told_lists_are_new_and_handed_ones_stay(self):
        board, paces = Board(3, [(0, 1), (1, 2)]), [(1, 1, 1), (1, 1, 1)]
        told = ahead(board, (0,), paces)
        self.assertEqual(paces, [(1, 1, 1), (1, 1, 1)])
        kept = list(told)
        paces.clear()
        self.assertEqual(told, kept)
        told.clear()
        self.assertEqual(ahead(board, (0,), [(1, 1, 1), (1, 1, 1)]), kept)

    def test_every_lot_of_eight_places(self):
        board = Board(8, [(place, (place + 1) & 7) for place in range(8)])
        for lot in all_lots(8):
            told = ahead(board, lot, [even(board, 1), even(board, 7)])
            self.assertEqual(told[1], tuple(sorted({end for one in lot for end in (one, (one + 1) & 7)})))
            self.assertEqual(told[2], tuple(range(8)) if lot else ())


if __name__ == "__main__":
    unittest.main()
