"""Boards: places, ways, how far, lots, turned and renamed ones."""

import copy
import itertools
import random
import unittest

from roamlook.boards import MOST_PLACES, Board, check_lot, is_lot
from roamlook.errors import BadLot, BadMany, BadOrder, BadWay, NoPlace

from samples import FAR_NUMBERS, all_lots, all_pairs, board_of, few_shapes, no_lots, plain_fars, sample_shapes


class Making(unittest.TestCase):
    def test_most_places(self):
        self.assertEqual(MOST_PLACES, 8)

    def test_one_to_eight_places(self):
        for many in range(1, 9):
            board = Board(many)
            self.assertEqual(len(board), many)
            self.assertEqual(board.ways(), [])

    def test_other_counts_are_refused(self):
        for many in (0, -1, 10) + FAR_NUMBERS:
            with self.assertRaises(BadMany) as refused:
                Board(many)
            self.assertEqual(refused.exception.many, many)

    def test_count_is_refused_ahead_of_ways(self):
        for many in (0, 9, -3):
            with self.assertRaises(BadMany):
                Board(many, [(0, 0), (20, 1)])

    def test_true_is_no_count_and_no_place(self):
        with self.assertRaises(BadMany):
            Board(True)
        with self.assertRaises(BadWay):
            Board(3, [(True, 2)])
        with self.assertRaises(NoPlace):
            Board(3).onward(True)

    def test_ways_as_list_and_as_tuple_in_any_order(self):
        for many, ways in sample_shapes():
            mixed = random.Random(len(ways)).sample(ways, len(ways))
            for handed in (mixed, tuple(mixed), mixed[::-1]):
                board = Board(many, handed)
                self.assertEqual(board.ways(), sorted(ways))
                self.assertEqual(len(board), many)

    def test_by_names_in_any_order(self):
        self.assertEqual(Board(ways=[(0, 1)], many=2), Board(2, [(0, 1)]))
        self.assertEqual(Board(many=2), Board(2, ()))

    def test_a_wrong_way_at_any_place(self):
        ways = [(0, 1), (1, 2), (2, 0), (2, 1)]
        wrong = [(3, 0), (0, 3), (-1, 0), (0, -1), (1, 1), (0, 0), (5, 5), (999999999999, 1), (1, -999999999999)]
        for at in range(len(ways) + 1):
            for way in wrong:
                handed = ways[:at] + [way] + ways[at:]
                for form in (list, tuple):
                    with self.assertRaises(BadWay) as refused:
                        Board(3, form(handed))
                    self.assertEqual(refused.exception.at, at)

    def test_a_way_that_stood_already(self):
        ways = [(0, 1), (1, 2), (2, 0), (2, 1)]
        for first, at in itertools.combinations(range(len(ways) + 1), 2):
            handed = ways[:at] + [ways[first]] + ways[at:]
            with self.assertRaises(BadWay) as refused:
                Board(3, handed)
            self.assertEqual(refused.exception.at, at)

    def test_the_first_wrong_way_is_told(self):
        for handed, at in (
            ([(0, 1), (0, 1), (7, 7)], 1),
            ([(0, 1), (7, 7), (0, 1)], 1),
            ([(1, 1), (1, 1)], 0),
            ([(0, 1), (1, 0), (0, 2), (1, 0), (0, 1)], 3),
        ):
            with self.assertRaises(BadWay) as refused:
                Board(3, handed)
            self.assertEqual(refused.exception.at, at)

    def test_both_directions_are_two_ways(self):
        board = Board(2, [(1, 0), (0, 1)])
        self.assertEqual(board.ways(), [(0, 1), (1, 0)])

    def test_all_ways_of_eight_places(self):
        board = Board(8, all_pairs(8))
        self.assertEqual(len(board.ways()), 56)


class Asking(unittest.TestCase):
    def test_far_onward_and_within_of_all_places(self):
        for many, ways in sample_shapes():
            board = Board(many, ways)
            fars = plain_fars(many, ways)
            for one in range(many):
                self.assertEqual(board.onward(one), sorted(end for start, end in ways if start == one))
                for other in range(many):
                    self.assertEqual(board.far(one, other), fars[one][other], (many, ways, one, other))
                for most in (-999999999999, -1, 0, 1, 2, 3, 6, 7, 8, 999999999999):
                    lot = tuple(end for end in range(many) if fars[one][end] is not None and fars[one][end] <= most)
                    self.assertEqual(board.within(one, most), lot)

    def test_far_goes_in_one_direction(self):
        board = Board(8, [(place, place + 1) for place in range(7)])
        self.assertEqual(board.far(0, 7), 7)
        self.assertIsNone(board.far(7, 0))
        self.assertEqual(board.far(3, 3), 0)

    def test_kinds_of_what_is_told(self):
        board = Board(3, [(0, 2), (0, 1)])
        self.assertIs(type(board.ways()), list)
        self.assertTrue(all(type(way) is tuple for way in board.ways()))
        self.assertIs(type(board.onward(0)), list)
        self.assertIs(type(board.within(0, 1)), tuple)

    def test_places_that_are_none(self):
        for many, ways in few_shapes():
            board = Board(many, ways)
            for place in (-1, -many, many, many + 1) + FAR_NUMBERS:
                for ask in (
                    lambda: board.onward(place),
                    lambda: board.far(place, 0),
                    lambda: board.far(0, place),
                    lambda: board.within(place, 0),
                    lambda: board.within(place, -1),
                ):
                    with self.assertRaises(NoPlace) as refused:
                        ask()
                    self.assertEqual(refused.exception.place, place)

    def test_the_first_place_that_is_none_is_told(self):
        with self.assertRaises(NoPlace) as refused:
            Board(2).far(2, -1)
        self.assertEqual(refused.exception.place, 2)
        with self.assertRaises(NoPlace) as refused:
            Board(2).far(-1, 2)
        self.assertEqual(refused.exception.place, -1)

    def test_by_names_in_any_order(self):
        board = Board(3, [(0, 1), (1, 2)])
        self.assertEqual(board.far(other=2, one=0), 2)
        self.assertEqual(board.within(most=1, place=1), (1, 2))
        self.assertEqual(board.onward(place=0), [1])
        self.assertEqual(board.renamed(order=(2, 1, 0)).ways(), [(1, 0), (2, 1)])


class Turning(unittest.TestCase):
    def test_turned(self):
        for many, ways in sample_shapes():
            board = Board(many, ways)
            turned = board.turned()
            self.assertIsInstance(turned, Board)
            self.assertEqual(len(turned), many)
            self.assertEqual(turned.ways(), sorted((other, one) for one, other in ways))
            self.assertEqual(turned.turned(), board)
            self.assertEqual(board.ways(), sorted(ways))
            for one in range(many):
                for other in range(many):
                    self.assertEqual(turned.far(one, other), board.far(other, one))

    def test_renamed(self):
        for many, ways in few_shapes():
            board = Board(many, ways)
            orders = list(itertools.permutations(range(many)))
            for order in random.Random(many).sample(orders, min(len(orders), 8)):
                renamed = board.renamed(order)
                self.assertIsInstance(renamed, Board)
                self.assertEqual(len(renamed), many)
                self.assertEqual(renamed.ways(), sorted((order[one], order[other]) for one, other in ways))
                self.assertEqual(board.ways(), sorted(ways))
                for one in range(many):
                    for other in range(many):
                        self.assertEqual(renamed.far(order[one], order[other]), board.far(one, other))

    def test_renamed_calls_place_k_by_order_k(self):
        self.assertEqual(Board(3, [(0, 1)]).renamed((1, 2, 0)).ways(), [(1, 2)])

    def test_wrong_orders(self):
        for many in range(1, 9):
            whole = tuple(range(many))
            wrong = [whole[:-1], whole + (many,), whole + (0,), whole[1:] + (many,), whole[1:] + (-1,)]
            wrong.extend(whole[:-1] + (number,) for number in FAR_NUMBERS)
            if many > 1:
                wrong.extend([whole[:-1] + (0,), (many - 1,) + whole[1:], (1,) * many])
            for order in wrong:
                with self.assertRaises(BadOrder):
                    Board(many, all_pairs(many)[:1]).renamed(order)


class AnyEqual:
    def __eq__(self, other):
        return True


class Alike(unittest.TestCase):
    def test_boards_alike(self):
        for many, ways in sample_shapes():
            one, other = Board(many, ways), Board(many, tuple(reversed(ways)))
            self.assertTrue(one == other)
            self.assertTrue(other == one)
            self.assertFalse(one != other)

    def test_boards_unlike_in_one_way(self):
        for many, ways in few_shapes():
            board = Board(many, ways)
            fewer = [ways[:at] + ways[at + 1:] for at in range(len(ways))]
            turned = [rest + [(way[1], way[0])] for way, rest in zip(ways, fewer) if (way[1], way[0]) not in rest]
            for others in fewer + turned:
                other = Board(many, others)
                self.assertFalse(board == other)
                self.assertFalse(other == board)
                self.assertTrue(board != other)
                self.assertTrue(other != board)

    def test_boards_unlike_in_places(self):
        self.assertFalse(Board(2, [(0, 1)]) == Board(3, [(0, 1)]))
        self.assertTrue(Board(2, [(0, 1)]) != Board(3, [(0, 1)]))

    def test_alike_to_nothing_else(self):
        board = Board(2, [(0, 1)])
        for thing in (None, 2, "2 0>1", (2, ((0, 1),)), [(0, 1)], str(board), repr(board), Board, AnyEqual()):
            self.assertFalse(board == thing)
            self.assertTrue(board != thing)

    def test_len_and_repr(self):
        self.assertEqual(repr(Board(3, [(0, 1), (1, 2)])), "Board(3 places, 2 ways)")
        self.assertEqual(repr(Board(1)), "Board(1 places, 0 ways)")
        for many, ways in sample_shapes():
            self.assertEqual(repr(Board(many, ways)), f"Board({many} places, {len(ways)} ways)")

    def test_methods_stand_in_the_class(self):
        names = ("ways", "onward", "far", "within", "turned", "renamed", "__eq__", "__len__", "__str__", "__repr__")
        for name in names:
            self.assertIn(name, vars(Board))


class Copies(unittest.TestCase):
    def told(self, board):
        places = range(len(board))
        # A deep copy: a list that the board itself keeps would change along with it unseen.
        return copy.deepcopy((
            board.ways(), [board.onward(place) for place in places],
            [[board.far(one, other) for other in places] for one in places],
            [board.within(place, 1) for place in places], str(board), repr(board),
        ))

    def test_a_changed_list_of_ways_changes_nothing(self):
        ways = [(2, 0), (0, 1)]
        board = Board(3, ways)
        ahead = self.told(board)
        self.assertEqual(ways, [(2, 0), (0, 1)])
        ways.append((1, 2))
        ways[0] = (0, 2)
        self.assertEqual(self.told(board), ahead)
        self.assertEqual(board.ways(), [(0, 1), (2, 0)])

    def test_told_lists_are_new_ones(self):
        board = Board(3, [(2, 0), (0, 1)])
        ahead = self.told(board)
        board.ways().clear()
        board.onward(0).append(2)
        self.assertEqual(self.told(board), ahead)
        kept = board.ways()
        board.ways().append("x")
        self.assertEqual(kept, [(0, 1), (2, 0)])

    def test_other_boards_share_nothing(self):
        board = Board(3, [(2, 0), (0, 1)])
        ahead = self.told(board)
        for other in (board.turned(), board.renamed((0, 1, 2))):
            other.ways().clear()
            other.onward(0).clear()
        self.assertEqual(self.told(board), ahead)

    def test_refusals_change_nothing(self):
        board = Board(3, [(2, 0), (0, 1)])
        ahead = self.told(board)
        for ask in (lambda: board.onward(3), lambda: board.far(0, 3), lambda: board.within(-1, 2)):
            with self.assertRaises(NoPlace):
                ask()
        with self.assertRaises(BadOrder):
            board.renamed((0, 1, 1))
        self.assertEqual(self.told(board), ahead)

    def test_asked_again_the_same_is_told(self):
        for shape in few_shapes():
            board = board_of(shape)
            self.assertEqual(self.told(board), self.told(board))


class Lots(unittest.TestCase):
    def test_every_rising_tuple_of_places_is_a_lot(self):
        for many in range(1, 9):
            for lot in all_lots(many):
                self.assertTrue(is_lot(Board(many), lot))
                check_lot(Board(many), lot)

    def test_no_lots(self):
        for many in range(1, 9):
            for lot in no_lots(many) + [[0], [], (True,), ("0",), (None,), None, 0]:
                self.assertFalse(is_lot(Board(many), lot), lot)
                with self.assertRaises(BadLot):
                    check_lot(Board(many), lot)


if __name__ == "__main__":
    unittest.main()
