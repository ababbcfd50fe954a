"""Stories, and the lots forth, back and known."""

import random
import unittest

from roamlook.boards import Board
from roamlook.errors import BadStory
from roamlook.stories import MOST_TRIPLES, back, forth, known, last_beat, look_story

from samples import all_pairs
from story_samples import (
    board_and_story, chance_story, chance_ways, great_stories, no_stories, plain_back, plain_forth, plain_known,
    small_stories,
)


class Looking(unittest.TestCase):
    def test_stories_are_let(self):
        chance = random.Random(5)
        for last in range(13):
            for count in range(25):
                many = chance.randint(1, 8)
                ways = chance_ways(chance, many)
                story = chance_story(chance, many, ways, last, count, count // 2)
                self.assertIsNone(look_story(Board(many, ways), story))
                self.assertEqual(last_beat(story), last)

    def test_most_triples(self):
        self.assertEqual(MOST_TRIPLES, 24)

    def test_answers_that_no_place_gives_are_let(self):
        for answer in (-1, 2, 8, 999999999999, -999999999999):
            self.assertIsNone(look_story(Board(2), ((0,), (), ((0, ("in", (0,)), answer),))))

    def test_no_stories(self):
        for many in range(1, 9):
            board = Board(many, all_pairs(many)[:4])
            for story, at in no_stories(many):
                for ask in (look_story, forth, back, known):
                    with self.assertRaises(BadStory, msg=story) as refused:
                        ask(board, story)
                    self.assertEqual(refused.exception.at, at, story)

    def test_true_is_no_number_within_a_story(self):
        for story, at in (
            (((False,), (), ()), 0), (((0,), ((True, 1),), ()), 1), (((0,), (), ((False, ("in", ()), 0),)), 2),
            (((0,), (), ((0, ("in", ()), False),)), 2), (((0,), (), ((0, ("in", (True,)), 0),)), 2),
        ):
            with self.assertRaises(BadStory) as refused:
                look_story(Board(2), story)
            self.assertEqual(refused.exception.at, at)

    def test_a_look_of_another_board(self):
        story = ((0,), (), ((0, ("near", 2, 1), 0),))
        self.assertIsNone(look_story(Board(3), story))
        with self.assertRaises(BadStory) as refused:
            look_story(Board(2), story)
        self.assertEqual(refused.exception.at, 2)

    def test_by_names_in_any_order(self):
        board, story = Board(2, [(0, 1)]), ((0,), ((1, 1),), ())
        self.assertIsNone(look_story(story=story, board=board))
        self.assertEqual(last_beat(story=story), 1)
        self.assertEqual(forth(story=story, board=board), [(0,), (0, 1)])
        self.assertEqual(back(story=story, board=board), [(0, 1), (0, 1)])
        self.assertEqual(known(story=story, board=board), [(0,), (0, 1)])


class Lots(unittest.TestCase):
    def test_against_plain_reckonings(self):
        empty = 0
        for told in small_stories():
            shape, story = told
            board, story = board_and_story(told)
            self.assertEqual(forth(board, story), plain_forth(shape, story))
            self.assertEqual(back(board, story), plain_back(shape, story))
            self.assertEqual(known(board, story), plain_known(shape, story))
            empty += () in known(board, story)
        self.assertGreater(empty, 5)

    def test_a_line(self):
        board = Board(4, [(0, 1), (1, 2), (2, 3)])
        story = ((0, 1), ((1,) * 4, (1,) * 4), ((1, ("in", (2, 3)), 0), (2, ("near", 3, 2), 1)))
        self.assertEqual(forth(board, story), [(0, 1), (0, 1), (2,)])
        self.assertEqual(back(board, story), [(0, 1), (1,), (2,)])
        self.assertEqual(known(board, story), [(0, 1), (1,), (2,)])

    def test_no_walk_fits(self):
        board = Board(2, [(0, 1)])
        story = ((0, 1), ((1, 1), (1, 1)), ((1, ("in", (0,)), 7),))
        self.assertEqual(forth(board, story), [(0, 1), (), ()])
        self.assertEqual(back(board, story), [(), (), (0, 1)])
        self.assertEqual(known(board, story), [(), (), ()])

    def test_forth_reads_no_later_triple_and_back_no_beginning(self):
        board = Board(3, [(0, 1), (1, 2)])
        story = ((0,), ((1, 1, 1),), ((1, ("in", (2,)), 1),))
        self.assertEqual(forth(board, story), [(0,), ()])
        self.assertEqual(back(board, story), [(1, 2), (2,)])
        self.assertEqual(known(board, story), [(), ()])

    def test_known_just_where_in_both(self):
        for told in small_stories(3, 7) + great_stories():
            board, story = board_and_story(told)
            for one, other, lot in zip(forth(board, story), back(board, story), known(board, story)):
                self.assertEqual(lot, tuple(sorted(set(one) & set(other))))

    def test_the_same_triples_in_another_order(self):
        chance = random.Random(8)
        for told in small_stories(3, 9) + great_stories(1):
            board, (lot, paces, seen) = board_and_story(told)
            mixed = tuple(chance.sample(seen, len(seen)))
            for others in (mixed, seen[::-1], seen[: 24 - len(seen)] + seen):
                if len(others) <= 24:
                    for ask in (forth, back, known):
                        self.assertEqual(ask(board, (lot, paces, others)), ask(board, (lot, paces, seen)))

    def test_a_story_cut_in_two(self):
        for told in small_stories(3, 10) + great_stories(1):
            board, story = board_and_story(told)
            lot, paces, seen = story
            whole_forth, whole_back, whole_known = forth(board, story), back(board, story), known(board, story)
            for beat in range(len(paces) + 1):
                first = (lot, paces[:beat], tuple(triple for triple in seen if triple[0] <= beat))
                self.assertEqual(forth(board, first), whole_forth[: beat + 1])
                later = tuple((at - beat, look, answer) for at, look, answer in seen if at >= beat)
                self.assertEqual(back(board, ((0,), paces[beat:], later)), whole_back[beat:])
                if whole_forth[beat]:
                    second = (whole_forth[beat], paces[beat:], later)
                    self.assertEqual(forth(board, second), whole_forth[beat:])
                    self.assertEqual(known(board, second), whole_known[beat:])

    def test_kinds_and_new_lists(self):
        board, story = Board(2, [(0, 1)]), ((0,), ((1, 1),) * 2, ((1, ("in", (0,)), 0),))
        for ask in (forth, back, known):
            told = ask(board, story)
            self.assertIs(type(told), list)
            self.assertEqual([type(lot) for lot in told], [tuple] * 3)
            kept = list(told)
            told.clear()
            self.assertEqual(ask(board, story), kept)


if __name__ == "__main__":
    unittest.main()
