"""The walks that fit, and their numbers."""

import random
import unittest

from roamlook.boards import Board
from roamlook.errors import BadBeat, BadStory, NoNumber, NoPlace
from roamlook.looks import answers
from roamlook.walks import fits, many_walks, number_of, walk_at, walk_by

from samples import FAR_NUMBERS, all_pairs
from story_samples import all_walks, board_and_story, great_stories, no_stories, plain_fitting, small_stories


def bent_walks(walk, many, chance):
    """Tuples of numbers that are near to a walk."""
    bent = [(), walk[:-1], walk[1:], walk + walk[-1:], walk + (0,), (0,) + walk, walk[::-1]]
    for at in range(len(walk)):
        for number in (-1, many, -many, chance.choice(FAR_NUMBERS), chance.randrange(many)):
            bent.append(walk[:at] + (number,) + walk[at + 1:])
    return bent


class Fits(unittest.TestCase):
    def test_all_walks_and_bent_ones(self):
        chance = random.Random(11)
        some = 0
        for told in small_stories(4, 12):
            board, story = board_and_story(told)
            fitting = set(plain_fitting(*told))
            some += bool(fitting)
            walks = all_walks(*told)
            for walk in chance.sample(walks, min(len(walks), 30)):
                for other in [walk] + bent_walks(walk, len(board), chance):
                    self.assertIs(fits(board, story, other), other in fitting, (told, other))
                    if other not in fitting:
                        self.assertIsNone(number_of(board, story, other))
        self.assertGreater(some, 20)

    def test_each_fault_alone(self):
        board = Board(3, [(0, 1), (1, 2)])
        story = ((0, 1), ((1, 1, 1),) * 2, ((2, ("in", (2,)), 1), (1, ("in", (0, 1)), 1)))
        self.assertTrue(fits(board, story, (0, 1, 2)))
        self.assertTrue(fits(board, story, (1, 1, 2)))
        for walk in (
            (0, 1, 1), (0, 0, 1), (1, 2, 2), (0, 0, 2), (2, 2, 2), (1, 0, 1), (0, 1), (0, 1, 2, 2), (), (0, 1, 3),
            (-3, 1, 2), (0, -2, 2), (0, 1, -1), (3, 1, 2), (999999999999, 1, 2),
        ):
            self.assertIs(fits(board, story, walk), False, walk)
            self.assertIsNone(number_of(board, story, walk))

    def test_true_is_no_place(self):
        board, story = Board(2, [(0, 1)]), ((0, 1), ((1, 1),), ())
        self.assertFalse(fits(board, story, (False, True)))
        self.assertFalse(fits(board, story, [0, 1]))

    def test_great_stories(self):
        for told in great_stories():
            board, story = board_and_story(told)
            walk = walk_at(board, story)
            self.assertTrue(fits(board, story, walk))
            self.assertFalse(fits(board, story, walk[:-1] + (8,)))


class Numbers(unittest.TestCase):
    def test_there_and_back_over_all_numbers(self):
        for told in small_stories(5, 13):
            board, story = board_and_story(told)
            walks = plain_fitting(*told)
            self.assertEqual(many_walks(board, story), len(walks))
            self.assertEqual(walks, sorted(walks))
            for number, walk in list(enumerate(walks))[:: max(1, len(walks) // 40)]:
                self.assertEqual(walk_at(board, story, number=number), walk)
                self.assertEqual(number_of(board, story, walk), number)
            for number in (-1, len(walks), len(walks) + 1, -len(walks) - 1) + FAR_NUMBERS[:3] + FAR_NUMBERS[-1:]:
                with self.assertRaises(NoNumber) as refused:
                    walk_at(board, story, number=number)
                self.assertEqual(refused.exception.number, number)

    def test_the_first_where_no_number_is_handed_in(self):
        for told in small_stories(2, 14):
            board, story = board_and_story(told)
            walks = plain_fitting(*told)
            if walks:
                self.assertEqual(walk_at(board, story), walks[0])
                self.assertIs(type(walk_at(board, story)), tuple)
            else:
                with self.assertRaises(NoNumber) as refused:
                    walk_at(board, story)
                self.assertEqual(refused.exception.number, 0)

    def test_far_too_many_to_be_listed(self):
        board = Board(8, all_pairs(8))
        whole = tuple(range(8))
        story = (whole, ((1,) * 8,) * 12, ())
        self.assertEqual(many_walks(board, story), 8 ** 13)
        # Every tuple of places is a walk here, so the number is written in eights.
        for number in (0, 1, 8, 8 ** 12, 8 ** 13 - 1, 123456789012, 0o1234567012345):
            walk = walk_at(board, story, number=number)
            self.assertEqual(walk, tuple(int(figure) for figure in oct(number)[2:].rjust(13, "0")))
            self.assertEqual(number_of(board, story, walk), number)
        for number in (-1, 8 ** 13):
            with self.assertRaises(NoNumber):
                walk_at(board, story, number=number)

    def test_some_numbers_of_great_stories(self):
        chance = random.Random(15)
        for told in great_stories():
            board, story = board_and_story(told)
            count = many_walks(board, story)
            self.assertGreater(count, 10000)
            numbers = sorted({0, 1, count // 2, count - 2, count - 1} | {chance.randrange(count) for turn in range(9)})
            walks = [walk_at(board, story, number=number) for number in numbers]
            self.assertEqual(walks, sorted(walks))
            for number, walk in zip(numbers, walks):
                self.assertTrue(fits(board, story, walk))
                self.assertEqual(number_of(board, story, walk), number)

    def test_counts_of_parts_make_the_whole(self):
        for told in great_stories(1):
            board, (lot, paces, seen) = board_and_story(told)
            if len(seen) < 24:
                parts = [many_walks(board, ((place,), paces, seen)) for place in lot]
                self.assertEqual(sum(parts), many_walks(board, (lot, paces, seen)))
                look = ("near", 3, 2)
                parts = [many_walks(board, (lot, paces, seen + ((6, look, answer),))) for answer in range(4)]
                self.assertEqual(sum(parts), many_walks(board, (lot, paces, seen)))

    def test_number_by_its_name_alone(self):
        board, story = Board(2, [(0, 1)]), ((0,), ((1, 1),), ())
        self.assertEqual(walk_at(number=1, story=story, board=board), (0, 1))
        with self.assertRaises(TypeError):
            walk_at(board, story, 1)
        self.assertEqual(many_walks(story=story, board=board), 2)
        self.assertEqual(number_of(walk=(0, 1), story=story, board=board), 1)
        self.assertIs(fits(walk=(0, 1), story=story, board=board), True)
        self.assertEqual(walk_by(place=1, beat=1, story=story, board=board), (0, 1))


class ByPlace(unittest.TestCase):
    def test_first_walk_there(self):
        for told in small_stories(4, 16):
            board, story = board_and_story(told)
            walks = plain_fitting(*told)
            for beat in range(len(story[1]) + 1):
                for place in range(len(board)):
                    there = [walk for walk in walks if walk[beat] == place]
                    self.assertEqual(walk_by(board, story, beat, place), there[0] if there else None)

    def test_great_stories(self):
        for told in great_stories():
            board, story = board_and_story(told)
            for beat in range(13):
                for place in range(8):
                    walk = walk_by(board, story, beat, place)
                    if walk is not None:
                        self.assertEqual(walk[beat], place)
                        self.assertTrue(fits(board, story, walk))

    def test_with_as_many_triples_as_there_may_be(self):
        board = Board(2, [(0, 1)])
        story = ((0,), ((1, 1),), ((0, ("in", (0,)), 1),) * 24)
        self.assertEqual(walk_by(board, story, 1, 1), (0, 1))
        self.assertIsNone(walk_by(board, story, 0, 1))

    def test_refused_beats_and_places(self):
        for told in small_stories(1, 17):
            board, story = board_and_story(told)
            last, many = len(story[1]), len(board)
            for beat in (-1, last + 1, -last - 1, 13) + FAR_NUMBERS[:2]:
                if not 0 <= beat <= last:
                    for place in (0, -1, many):
                        with self.assertRaises(BadBeat) as refused:
                            walk_by(board, story, beat, place)
                        self.assertEqual(refused.exception.beat, beat)
            for place in (-1, many, -many) + FAR_NUMBERS:
                for beat in (0, last):
                    with self.assertRaises(NoPlace) as refused:
                        walk_by(board, story, beat, place)
                    self.assertEqual(refused.exception.place, place)


class Refusals(unittest.TestCase):
    def test_no_stories(self):
        asks = (
            lambda board, story: fits(board, story, (0,)),
            lambda board, story: many_walks(board, story),
            lambda board, story: walk_at(board, story),
            lambda board, story: walk_at(board, story, number=-1),
            lambda board, story: walk_at(board, story, number=999999999999),
            lambda board, story: number_of(board, story, (0,)),
            lambda board, story: walk_by(board, story, 0, 0),
            lambda board, story: walk_by(board, story, -1, -1),
        )
        for many in range(1, 9):
            board = Board(many, all_pairs(many)[:4])
            for story, at in no_stories(many)[::3]:
                for ask in asks:
                    with self.assertRaises(BadStory) as refused:
                        ask(board, story)
                    self.assertEqual(refused.exception.at, at)

    def test_a_wrong_look_in_a_story_is_no_bad_look(self):
        with self.assertRaises(BadStory):
            many_walks(Board(2), ((0,), (), ((0, ("in", (5,)), 1),)))

    def test_asking_changes_nothing(self):
        for told in small_stories(1, 18):
            board, story = board_and_story(told)
            ahead = (str(board), repr(story), many_walks(board, story), walk_by(board, story, 0, 0))
            walk_by(board, story, len(story[1]), len(board) - 1)
            fits(board, story, (0,))
            self.assertEqual(ahead, (str(board), repr(story), many_walks(board, story), walk_by(board, story, 0, 0)))
            self.assertEqual(answers(board, ("in", ())), (0,) * len(board))


if __name__ == "__main__":
    unittest.main()
