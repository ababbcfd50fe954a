"""Looks and their answers."""

import unittest

from roamlook.boards import Board
from roamlook.errors import BadLook
from roamlook.looks import answers, is_look, lot_of

from look_samples import no_looks, plain_answer, sample_looks
from samples import FAR_NUMBERS, board_of, few_shapes, sample_shapes


class Answers(unittest.TestCase):
    def test_answers_of_all_places(self):
        for many, ways in few_shapes():
            board = Board(many, ways)
            for look in sample_looks(many):
                told = tuple(plain_answer(ways, look, place) for place in range(many))
                self.assertEqual(answers(board, look), told, (many, ways, look))
                self.assertIs(type(answers(board, look)), tuple)
                self.assertTrue(all(type(answer) is int for answer in answers(board, look)))

    def test_near_on_many_boards(self):
        for many, ways in sample_shapes():
            board = Board(many, ways)
            for place in range(many):
                for most in (0, 1, 2, 7):
                    look = ("near", place, most)
                    told = tuple(plain_answer(ways, look, start) for start in range(many))
                    self.assertEqual(answers(board, look), told, (many, ways, look))

    def test_near_asks_for_the_ways_to_the_told_place(self):
        board = Board(3, [(0, 1), (1, 2)])
        self.assertEqual(answers(board, ("near", 2, 7)), (2, 1, 0))
        self.assertEqual(answers(board, ("near", 2, 1)), (2, 1, 0))
        self.assertEqual(answers(board, ("near", 2, 0)), (1, 1, 0))
        self.assertEqual(answers(board, ("near", 0, 7)), (0, 8, 8))
        self.assertEqual(answers(board, ("near", 0, 0)), (0, 1, 1))

    def test_places_to_which_no_ways_lead(self):
        for many in range(1, 9):
            for place in range(many):
                for most in range(8):
                    told = answers(Board(many), ("near", place, most))
                    self.assertEqual(told, tuple(0 if one == place else most + 1 for one in range(many)))

    def test_the_furthest_place(self):
        board = Board(8, [(place, place + 1) for place in range(7)])
        self.assertEqual(answers(board, ("near", 7, 7)), (7, 6, 5, 4, 3, 2, 1, 0))
        self.assertEqual(answers(board, ("near", 7, 6)), (7, 6, 5, 4, 3, 2, 1, 0))
        self.assertEqual(answers(board, ("near", 7, 5)), (6, 6, 5, 4, 3, 2, 1, 0))

    def test_parts_number_the_lots_as_they_stand(self):
        board = Board(4)
        self.assertEqual(answers(board, ("parts", ((2, 3), (0,), (1,)))), (1, 2, 0, 0))
        self.assertEqual(answers(board, ("parts", ((0, 1, 2, 3),))), (0, 0, 0, 0))

    def test_in_none_and_in_all(self):
        for many in range(1, 9):
            self.assertEqual(answers(Board(many), ("in", ())), (0,) * many)
            self.assertEqual(answers(Board(many), ("in", tuple(range(many)))), (1,) * many)

    def test_one_look_on_two_boards(self):
        look = ("near", 1, 3)
        self.assertEqual(answers(Board(3, [(0, 1)]), look), (1, 0, 4))
        self.assertEqual(answers(Board(3, [(2, 0), (0, 1)]), look), (1, 0, 2))
        self.assertEqual(answers(Board(2), look), (4, 0))
        with self.assertRaises(BadLook):
            answers(Board(1), look)
        self.assertEqual(answers(Board(2), ("parts", ((0, 1),))), (0, 0))
        with self.assertRaises(BadLook):
            answers(Board(3), ("parts", ((0, 1),)))
        self.assertEqual(answers(Board(3), ("in", (2,))), (0, 0, 1))
        with self.assertRaises(BadLook):
            answers(Board(2), ("in", (2,)))


class Lots(unittest.TestCase):
    def test_lot_of_each_answer(self):
        for many, ways in few_shapes():
            board = Board(many, ways)
            for look in sample_looks(many)[::3]:
                told = [plain_answer(ways, look, place) for place in range(many)]
                for answer in tuple(range(-1, 10)) + FAR_NUMBERS:
                    lot = tuple(place for place in range(many) if told[place] == answer)
                    self.assertEqual(lot_of(board, look, answer), lot)
                    self.assertIs(type(lot_of(board, look, answer)), tuple)

    def test_answers_that_no_place_gives(self):
        board = Board(2, [(0, 1)])
        self.assertEqual(lot_of(board, ("in", (0, 1)), 0), ())
        self.assertEqual(lot_of(board, ("in", (0,)), 2), ())
        self.assertEqual(lot_of(board, ("parts", ((0,), (1,))), 2), ())
        self.assertEqual(lot_of(board, ("near", 1, 3), 4), ())

    def test_by_names_in_any_order(self):
        board = Board(2, [(0, 1)])
        self.assertEqual(lot_of(answer=1, look=("in", (0,)), board=board), (0,))
        self.assertEqual(answers(look=("in", (0,)), board=board), (1, 0))


class Refusals(unittest.TestCase):
    def test_no_looks(self):
        for many in range(1, 9):
            for ways in ([], [(place, place + 1) for place in range(many - 1)]):
                board = Board(many, ways)
                for look in no_looks(many):
                    with self.assertRaises(BadLook, msg=(many, look)):
                        answers(board, look)
                    for answer in (0, 1, -5):
                        with self.assertRaises(BadLook):
                            lot_of(board, look, answer)

    def test_true_is_no_number_within_a_look(self):
        for look in (("in", (True,)), ("near", True, 1), ("near", 0, True), ("parts", ((False,), (True,)))):
            self.assertFalse(is_look(Board(2), look))

    def test_things_of_other_kinds_are_no_looks(self):
        for thing in ((), (1,), None, 3, "in 0", ["in", (0,)], ("in", 0), ("in", [0]), ("parts", [(0,), (1,)]),
                      ("parts", 0), ("parts", (0, 1)), ("parts", ([0], [1])), ("near", (0,), 1), ("near", 0, (1,)),
                      (("in",), (0,)), (["in"], (0,))):
            self.assertFalse(is_look(Board(2), thing), thing)

    def test_asked_again_the_same_is_told(self):
        for shape in few_shapes():
            board = board_of(shape)
            for look in sample_looks(len(board))[::5]:
                self.assertEqual(answers(board, look), answers(board, look))


if __name__ == "__main__":
    unittest.main()
