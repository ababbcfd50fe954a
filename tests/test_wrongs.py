"""The fewest wrong triples, and tables that show that so many are not enough."""

import itertools
import random
import unittest

from roamlook.boards import Board
from roamlook.errors import BadCount, BadStory
from roamlook.stories import MOST_TRIPLES
from roamlook.walks import is_walk, missed
from roamlook.wrongs import MOST_SEEN, fewest_wrong, table, table_holds

from look_samples import plain_answer
from samples import FAR_NUMBERS, all_lots, all_pairs, plain_steps
from story_samples import (
    all_walks, board_and_story, chance_story, chance_ways, great_stories, no_stories, plain_missed, small_stories,
)


def plain_misses(shape, story, beat, place):
    return sum(plain_answer(shape[1], look, place) != answer for at, look, answer in story[2] if at == beat)


def plain_table(shape, story, count, rows):
    """Whether rows are a table, by the words of point 10."""
    last = len(story[1])
    if len(rows) != last + 1 or any(len(row) != count + 1 for row in rows) or any(rows[-1]):
        return False
    for place in story[0]:
        for number in range(plain_misses(shape, story, 0, place), count + 1):
            if place not in rows[0][number]:
                return False
    for beat in range(1, last + 1):
        misses = [plain_misses(shape, story, beat, place) for place in range(shape[0])]
        for start, end in plain_steps(*shape, story[1][beat - 1]):
            for j in range(count + 1):
                if start in rows[beat - 1][j]:
                    for number in range(j + misses[end], count + 1):
                        if end not in rows[beat][number]:
                            return False
    return True


def wrong_stories(turns=3, seed=30):
    """Small stories with several wrong triples."""
    chance = random.Random(seed)
    told = []
    for turn in range(turns):
        for many, last in ((1, 3), (2, 4), (2, 0), (3, 3), (4, 2), (5, 2), (8, 1)):
            ways = chance_ways(chance, many)
            count = chance.choice((2, 4, 8, 24))
            told.append(((many, ways), chance_story(chance, many, ways, last, count, count - 1)))
    return told


class Fewest(unittest.TestCase):
    def test_against_plain_reckonings(self):
        counts = set()
        for told in small_stories(4, 31) + wrong_stories():
            board, story = board_and_story(told)
            walks = [(len(plain_missed(*told, walk)), walk) for walk in all_walks(*told)]
            many, walk = min(walks)
            told_many, told_walk, numbers = fewest_wrong(board, story)
            self.assertEqual((told_many, told_walk), (many, walk), told)
            self.assertEqual(numbers, plain_missed(*told, walk))
            self.assertIs(type(fewest_wrong(board, story)), tuple)
            self.assertIs(type(numbers), list)
            self.assertIs(type(told_walk), tuple)
            counts.add(many)
        self.assertTrue({0, 1, 2, 3} <= counts, counts)

    def test_none_and_all_missed(self):
        board = Board(2, [(0, 1)])
        self.assertEqual(fewest_wrong(board, ((0, 1), ((1, 1),), ())), (0, (0, 0), []))
        triples = tuple((number % 2, ("in", (0,)), 2) for number in range(24))
        self.assertEqual(fewest_wrong(board, ((1,), ((1, 1),), triples)), (24, (1, 1), list(range(24))))

    def test_the_first_of_those_that_miss_so_few(self):
        board = Board(3, all_pairs(3))
        story = ((0, 1, 2), ((1, 1, 1),), ((0, ("in", (0,)), 0), (1, ("in", (2,)), 1), (1, ("in", (1,)), 1)))
        self.assertEqual(fewest_wrong(board, story), (1, (1, 1), [1]))

    def test_great_stories(self):
        for (many, ways), (lot, paces, seen) in great_stories():
            board = Board(many, ways)
            wrong = tuple((beat, ("in", (beat // 2,)), 7) for beat in range(0, 12, 2))
            story = (lot, paces, (wrong + seen)[:24])
            count, walk, numbers = fewest_wrong(board, story)
            self.assertEqual(count, 6)
            self.assertEqual(numbers, list(range(6)))
            self.assertTrue(is_walk(board, story, walk))
            self.assertEqual(missed(board, story, walk), numbers)
            for so_many in range(25):
                rows = table(board, story, so_many)
                self.assertEqual(rows is None, so_many >= 6)
                if rows is not None:
                    self.assertTrue(table_holds(board, story, so_many, rows))

    def test_by_names_in_any_order(self):
        board, story = Board(2, [(0, 1)]), ((0,), (), ((0, ("in", (0,)), 0),))
        self.assertEqual(fewest_wrong(story=story, board=board), (1, (0,), [0]))
        self.assertEqual(table(count=0, story=story, board=board), [[()]])
        self.assertIs(table_holds(rows=[[()]], count=0, story=story, board=board), True)


def bent_tables(rows, many):
    """Tables that are near to this one."""
    bent = [[], rows[1:], rows[:-1], rows + [rows[-1]], [rows[0]] + rows, rows[::-1]]
    for at, row in enumerate(rows):
        others = [row[1:], row[:-1], row + [row[-1]], row + [()], row[::-1], []]
        for number, lot in enumerate(row):
            for place in range(many):
                others.append(row[:number] + [tuple(sorted(set(lot) ^ {place}))] + row[number + 1:])
            others.append(row[:number] + [tuple(range(many))] + row[number + 1:])
        bent.extend(rows[:at] + [other] + rows[at + 1:] for other in others)
    return bent


class Tables(unittest.TestCase):
    def test_a_table_just_where_no_walk_misses_so_few(self):
        for told in small_stories(2, 32) + wrong_stories(2, 33):
            shape, story = told
            board, story = board_and_story(told)
            fewest = min(len(plain_missed(*told, walk)) for walk in all_walks(*told))
            for count in range(25):
                rows = table(board, story, count)
                if count >= fewest:
                    self.assertIsNone(rows)
                    continue
                self.assertTrue(plain_table(shape, story, count, rows))
                self.assertIs(table_holds(board, story, count, rows), True)
                self.assertEqual([type(row) for row in rows], [list] * len(rows))
                self.assertTrue(all(type(lot) is tuple for row in rows for lot in row))

    def test_bent_tables(self):
        held = {True: 0, False: 0}
        for told in wrong_stories(4, 34):
            shape, story = told
            board, story = board_and_story(told)
            for count in (0, 1, 2, 5):
                rows = table(board, story, count)
                for bent in [] if rows is None else bent_tables(rows, len(board)):
                    right = plain_table(shape, story, count, bent)
                    self.assertIs(table_holds(board, story, count, bent), right)
                    held[right] += 1
                if rows is not None:
                    for other in (count - 1, count + 1):
                        if 0 <= other <= 24:
                            self.assertIs(table_holds(board, story, other, rows), False)
        self.assertGreater(min(held.values()), 50, held)

    def test_more_places_than_needed(self):
        board = Board(3, [(0, 1), (1, 2)])
        story = ((0,), ((1, 1, 1),) * 2, ((2, ("in", (0, 1)), 2), (2, ("in", (2,)), 2)))
        self.assertEqual(table(board, story, 1), [[(0,), (0,)], [(0, 1), (0, 1)], [(), ()]])
        self.assertTrue(table_holds(board, story, 1, [[(0, 1), (0, 2)], [(0, 1, 2), (0, 1, 2)], [(), ()]]))
        self.assertFalse(table_holds(board, story, 1, [[(0,), (0, 2)], [(0, 1), (0, 1)], [(), ()]]))
        self.assertFalse(table_holds(board, story, 1, [[(0,), (0,)], [(0, 1), (0,)], [(), ()]]))
        self.assertFalse(table_holds(board, story, 1, [[(0,), (0,)], [(0, 1), (0, 1)], [(), (2,)]]))
        self.assertFalse(table_holds(board, story, 1, [[(0,), ()], [(0, 1), (0, 1)], [(), ()]]))
        self.assertFalse(table_holds(board, story, 1, [[(0,), (0,)], [(0, 1), (0, 1)]]))

    def test_every_table_of_tiny_stories(self):
        board = Board(2, [(0, 1)])
        for answers_told in itertools.product((0, 1, 5), repeat=2):
            seen = tuple((beat, ("in", (0,)), answer) for beat, answer in enumerate(answers_told))
            story = ((0,), ((1, 1),), seen)
            for count in (0, 1):
                lots = itertools.product(all_lots(2), repeat=2 * (count + 1))
                found = [
                    rows for rows in lots
                    if table_holds(board, story, count, [list(rows[:count + 1]), list(rows[count + 1:])])
                ]
                self.assertEqual(bool(found), fewest_wrong(board, story)[0] > count)
                self.assertEqual(table(board, story, count) is not None, bool(found))

    def test_told_lists_are_new_ones(self):
        board, story = Board(2, [(0, 1)]), ((0,), ((1, 1),), ((1, ("in", ()), 1),) * 2)
        told = table(board, story, 1)
        kept = [list(row) for row in told]
        self.assertIsNot(told[0], told[1])
        for row in told:
            row.clear()
        told.clear()
        self.assertEqual(table(board, story, 1), kept)
        numbers = fewest_wrong(board, story)[2]
        numbers.clear()
        self.assertEqual(fewest_wrong(board, story)[2], [0, 1])

    def test_rows_handed_in_are_not_changed(self):
        board, story = Board(2, [(0, 1)]), ((0,), ((1, 1),), ((1, ("in", ()), 1),) * 2)
        rows = table(board, story, 1)
        kept = [list(row) for row in rows]
        self.assertTrue(table_holds(board, story, 1, rows))
        self.assertEqual(rows, kept)


class Refusals(unittest.TestCase):
    def test_most_seen(self):
        self.assertEqual(MOST_SEEN, 24)
        self.assertEqual(MOST_SEEN, MOST_TRIPLES)

    def test_counts(self):
        board, story = Board(2, [(0, 1)]), ((0,), ((1, 1),), ())
        for count in (-1, 25, 26, -25) + FAR_NUMBERS[:2] + FAR_NUMBERS[-2:]:
            for ask in (lambda: table(board, story, count), lambda: table_holds(board, story, count, [])):
                with self.assertRaises(BadCount) as refused:
                    ask()
                self.assertEqual(refused.exception.count, count)
        for count in (0, 24):
            self.assertIsNone(table(board, story, count))
            self.assertFalse(table_holds(board, story, count, []))

    def test_no_stories(self):
        for many in range(1, 9):
            board = Board(many, all_pairs(many)[:4])
            for story, at in no_stories(many)[::3]:
                for ask in (
                    lambda: fewest_wrong(board, story), lambda: table(board, story, 0),
                    lambda: table(board, story, -1), lambda: table_holds(board, story, 0, []),
                    lambda: table_holds(board, story, 25, []),
                ):
                    with self.assertRaises(BadStory) as refused:
                        ask()
                    self.assertEqual(refused.exception.at, at)


if __name__ == "__main__":
    unittest.main()
