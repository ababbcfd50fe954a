"""Triples that are worth alike, needless ones, and the bare ones."""

import random
import unittest

from roamlook.boards import Board
from roamlook.errors import BadStory
from roamlook.walks import fits, many_walks
from roamlook.worth import bare, needless, worth_alike

from samples import all_pairs
from story_samples import (
    board_and_story, chance_triple, great_stories, no_stories, plain_fitting, small_stories, wrong_parts,
)


def with_seen(story, seen):
    return (story[0], story[1], tuple(seen))


def plain_needless(shape, story, numbers, number):
    """Whether a triple is needless beside those with these numbers, by all walks that fit."""
    seen = story[2]
    whole = plain_fitting(shape, with_seen(story, [seen[other] for other in numbers]))
    rest = plain_fitting(shape, with_seen(story, [seen[other] for other in numbers if other != number]))
    return whole == rest


def plain_bare(shape, story):
    left = list(range(len(story[2])))
    for number in range(len(story[2])):
        if plain_needless(shape, story, left, number):
            left.remove(number)
    return left


def few_walk_stories(turns, seed):
    """Stories whose walks are so few that they may be listed again and again."""
    return [told for told in small_stories(turns, seed) if told[0][0] ** len(told[1][1]) < 300]


class Alike(unittest.TestCase):
    def judge(self, told, seen):
        board, story = board_and_story(told)
        one = plain_fitting(*told)
        other = plain_fitting(told[0], with_seen(story, seen))
        answer = worth_alike(board, story, tuple(seen))
        if one == other:
            self.assertEqual(answer, ("alike",))
        else:
            self.assertEqual((type(answer), len(answer), answer[0]), (tuple, 2, "walk"))
            self.assertNotEqual(answer[1] in one, answer[1] in other)
        return one == other

    def test_alike_and_unlike(self):
        chance = random.Random(40)
        found = {True: 0, False: 0}
        for told in few_walk_stories(5, 41):
            (many, ways), (lot, paces, seen) = told
            others = [(), seen[:-1], seen[1:], seen[: len(seen) // 2]]
            for turn in range(4):
                triples = [chance_triple(chance, many, ways, len(paces)) for number in range(chance.randint(1, 3))]
                others.extend([triples, (list(seen) + triples)[:24]])
            for other in others:
                found[self.judge(told, other)] += 1
        self.assertGreater(min(found.values()), 100, found)

    def test_in_any_order_and_doubled(self):
        chance = random.Random(42)
        for told in few_walk_stories(3, 43) + great_stories():
            board, story = board_and_story(told)
            seen = story[2]
            mixed = tuple(chance.sample(seen, len(seen)))
            self.assertEqual(worth_alike(board, story, mixed), ("alike",))
            self.assertEqual(worth_alike(board, story, (seen + mixed)[:max(24, len(seen))]), ("alike",))

    def test_where_no_walk_fits(self):
        board = Board(2, [(0, 1)])
        none = (0, ("in", (0,)), 2)
        other = (1, ("near", 1, 0), 5)
        story = ((0, 1), ((1, 1),), (none,))
        self.assertEqual(worth_alike(board, story, (other,)), ("alike",))
        self.assertEqual(worth_alike(board, story, ((0, ("in", (1,)), 2), other)), ("alike",))
        answer = worth_alike(board, story, ())
        self.assertEqual(answer[0], "walk")
        self.assertTrue(fits(board, with_seen(story, ()), answer[1]))

    def test_triples_of_two_beats_that_tell_the_same(self):
        board = Board(2, [(0, 1)])
        story = ((0, 1), ((1, 1),), ((1, ("in", (0,)), 1),))
        self.assertEqual(worth_alike(board, story, ((0, ("in", (0,)), 1), (1, ("in", (0,)), 1))), ("alike",))
        self.assertEqual(worth_alike(board, story, ((0, ("in", (0,)), 1),)), ("walk", (0, 1)))

    def test_great_stories(self):
        for told in great_stories():
            board, story = board_and_story(told)
            seen = story[2]
            for at in range(len(seen)):
                rest = seen[:at] + seen[at + 1:]
                answer = worth_alike(board, story, rest)
                same = many_walks(board, story) == many_walks(board, with_seen(story, rest))
                self.assertEqual(answer == ("alike",), same)
                if not same:
                    self.assertFalse(fits(board, story, answer[1]))
                    self.assertTrue(fits(board, with_seen(story, rest), answer[1]))
            answer = worth_alike(board, story, ((6, ("near", 2, 1), 0),))
            self.assertNotEqual(fits(board, story, answer[1]), answer[1][6] == 2)

    def test_refused_triples(self):
        for many in range(1, 9):
            board = Board(many, all_pairs(many)[:4])
            story = ((0,), ((1,) * many,) * 3, ())
            for seen in wrong_parts(many)[2]:
                with self.assertRaises(BadStory) as refused:
                    worth_alike(board, story, seen)
                self.assertEqual(refused.exception.at, 2)

    def test_no_stories(self):
        for many in range(1, 9):
            board = Board(many, all_pairs(many)[:4])
            for story, at in no_stories(many)[::3]:
                for ask in (
                    lambda: worth_alike(board, story, ()), lambda: worth_alike(board, story, ((-1, ("x",), 0),)),
                    lambda: needless(board, story), lambda: bare(board, story),
                ):
                    with self.assertRaises(BadStory) as refused:
                        ask()
                    self.assertEqual(refused.exception.at, at)


class Needless(unittest.TestCase):
    def test_against_plain_reckonings(self):
        gone = 0
        for told in few_walk_stories(6, 44):
            shape, story = told
            board, story = board_and_story(told)
            numbers = list(range(len(story[2])))
            right = [number for number in numbers if plain_needless(shape, story, numbers, number)]
            self.assertEqual(needless(board, story), right)
            self.assertEqual(bare(board, story), plain_bare(shape, story))
            gone += len(right)
        self.assertGreater(gone, 100)

    def test_the_bare_ones_alone_are_worth_the_same(self):
        for told in few_walk_stories(3, 45) + great_stories():
            board, story = board_and_story(told)
            left = bare(board, story)
            self.assertEqual(left, sorted(left))
            seen = tuple(story[2][number] for number in left)
            self.assertEqual(worth_alike(board, story, seen), ("alike",))
            self.assertEqual(needless(board, with_seen(story, seen)), [])

    def test_alike_triples(self):
        board = Board(2, [(0, 1)])
        triple = (1, ("in", (0,)), 1)
        story = ((0, 1), ((1, 1),), (triple, (0, ("in", (1,)), 0), triple))
        self.assertEqual(needless(board, story), [0, 1, 2])
        self.assertEqual(bare(board, story), [2])
        self.assertEqual(bare(board, with_seen(story, (triple,) * 24)), [23])
        self.assertEqual(needless(board, with_seen(story, (triple,))), [])
        self.assertEqual(bare(board, with_seen(story, ())), [])

    def test_where_no_walk_fits(self):
        board = Board(2, [(0, 1)])
        story = ((0, 1), ((1, 1),), ((0, ("in", (0,)), 1), (0, ("in", (0,)), 0), (1, ("in", ()), 1)))
        self.assertEqual(needless(board, story), [0, 1, 2])
        self.assertEqual(bare(board, story), [2])

    def test_new_lists_and_names(self):
        board, story = Board(2, [(0, 1)]), ((0, 1), ((1, 1),), ((1, ("in", (0,)), 1), (0, ("in", ()), 0)))
        for ask, told in ((needless, [1]), (bare, [0])):
            first = ask(story=story, board=board)
            self.assertEqual(first, told)
            first.clear()
            self.assertEqual(ask(board, story), told)
        self.assertEqual(worth_alike(seen=(), story=story, board=board), ("walk", (0, 1)))


if __name__ == "__main__":
    unittest.main()
