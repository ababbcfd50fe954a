"""Papers of places at beats, and papers that are none."""

import itertools
import random
import unittest

from roamlook.boards import Board
from roamlook.errors import BadBeat, BadStory, NoPlace
from roamlook.papers import holds, paper
from roamlook.stories import back, forth, known

from look_samples import plain_answer
from samples import FAR_NUMBERS, all_lots, all_pairs, plain_steps
from story_samples import all_walks, board_and_story, great_stories, no_stories, plain_fitting, small_stories


def plain_answering(shape, story, beat):
    """The set of the places that answer all triples of a beat."""
    return {
        place for place in range(shape[0])
        if all(plain_answer(shape[1], look, place) == answer for at, look, answer in story[2] if at == beat)
    }


def plain_ahead(shape, story, beat, place, lots):
    """Whether lots are a paper ahead, by the words of point 9."""
    if len(lots) != beat + 1 or place in lots[-1]:
        return False
    if not set(story[0]) & plain_answering(shape, story, 0) <= set(lots[0]):
        return False
    for at in range(1, beat + 1):
        steps = plain_steps(*shape, story[1][at - 1])
        reached = {end for start, end in steps if start in lots[at - 1]}
        if not reached & plain_answering(shape, story, at) <= set(lots[at]):
            return False
    return True


def plain_behind(shape, story, beat, place, lots):
    """Whether lots are a paper behind, by the words of point 9."""
    last = len(story[1])
    if len(lots) != last - beat + 1 or place in lots[0]:
        return False
    if not plain_answering(shape, story, last) <= set(lots[-1]):
        return False
    for at in range(beat, last):
        steps = plain_steps(*shape, story[1][at])
        leading = {start for start, end in steps if end in lots[at + 1 - beat]}
        if not leading & plain_answering(shape, story, at) <= set(lots[at - beat]):
            return False
    return True


PLAIN = {"ahead": plain_ahead, "behind": plain_behind}


def bent_lots(lots, many):
    """Lists of lots that are near to these: one lot or one place too few or too many, lots exchanged."""
    bent = [[], lots[1:], lots[:-1], lots + [()], lots + [tuple(range(many))], [()] + lots, lots + lots, lots[::-1]]
    for at, lot in enumerate(lots):
        for place in range(many):
            other = tuple(sorted(set(lot) ^ {place}))
            bent.append(lots[:at] + [other] + lots[at + 1:])
        bent.append(lots[:at] + [()] + lots[at + 1:])
        bent.append(lots[:at] + [tuple(range(many))] + lots[at + 1:])
    return bent


def each_place(board, story):
    return itertools.product(range(len(story[1]) + 1), range(len(board)))


class Papers(unittest.TestCase):
    def test_each_place_at_each_beat_has_a_paper_that_holds(self):
        words = {"walk": 0, "ahead": 0, "behind": 0}
        for told in small_stories(4, 20):
            shape, story = told
            board, story = board_and_story(told)
            fitting = plain_fitting(*told)
            for beat, place in each_place(board, story):
                word, proof = paper(board, story, beat, place)
                words[word] += 1
                there = [walk for walk in fitting if walk[beat] == place]
                self.assertEqual(word == "walk", bool(there))
                if there:
                    self.assertIn(proof, there)
                else:
                    self.assertIs(type(proof), list)
                    self.assertTrue(PLAIN[word](shape, story, beat, place, proof))
                self.assertIs(holds(board, story, beat, place, (word, proof)), True)
        self.assertGreater(min(words.values()), 40, words)

    def test_great_stories(self):
        for told in great_stories():
            board, story = board_and_story(told)
            lots = known(board, story)
            for beat, place in each_place(board, story):
                proof = paper(board, story, beat, place)
                self.assertEqual(proof[0] == "walk", place in lots[beat])
                self.assertTrue(holds(board, story, beat, place, proof))

    def test_told_lists_are_new_ones(self):
        board, story = Board(2, [(0, 1)]), ((0,), ((1, 1),), ((1, ("in", (0,)), 1),))
        for beat, place in ((0, 1), (1, 1)):
            told = paper(board, story, beat, place)
            self.assertIs(type(told), tuple)
            kept = (told[0], list(told[1]))
            told[1].clear()
            self.assertEqual(paper(board, story, beat, place), kept)

    def test_by_names_in_any_order(self):
        board, story = Board(2, [(0, 1)]), ((0,), ((1, 1),), ())
        self.assertEqual(paper(place=1, beat=1, story=story, board=board), ("walk", (0, 1)))
        self.assertIs(holds(paper=("walk", (0, 1)), place=1, beat=1, story=story, board=board), True)


class Holding(unittest.TestCase):
    def test_bent_walks(self):
        chance = random.Random(21)
        for told in small_stories(3, 22):
            board, story = board_and_story(told)
            fitting = set(plain_fitting(*told))
            walks = all_walks(*told)
            for walk in chance.sample(walks, min(8, len(walks))):
                for beat, place in each_place(board, story):
                    for other in (walk, walk[:-1], walk + (0,), walk[:beat] + (place,) + walk[beat + 1:]):
                        right = other in fitting and other[beat] == place
                        self.assertIs(holds(board, story, beat, place, ("walk", other)), right)
                for other in (walk[:-1] + (-1,), walk[:-1] + (len(board),), (999999999999,) + walk[1:], ()):
                    self.assertIs(holds(board, story, 0, 0, ("walk", other)), False)

    def test_bent_lots(self):
        held = {True: 0, False: 0}
        for told in small_stories(3, 23):
            shape, story = told
            board, story = board_and_story(told)
            for beat, place in list(each_place(board, story))[::3]:
                for word, lots in (("ahead", forth(board, story)[:beat + 1]), ("behind", back(board, story)[beat:])):
                    for bent in [lots] + bent_lots(lots, len(board)):
                        right = PLAIN[word](shape, story, beat, place, bent)
                        self.assertIs(holds(board, story, beat, place, (word, bent)), right, (told, bent))
                        held[right] += 1
                    # The same lots under the other word.
                    other = "behind" if word == "ahead" else "ahead"
                    right = PLAIN[other](shape, story, beat, place, lots)
                    self.assertIs(holds(board, story, beat, place, (other, lots)), right)
        self.assertGreater(min(held.values()), 300)

    def test_each_fault_alone(self):
        board = Board(4, [(0, 1), (1, 2), (2, 3)])
        story = ((0,), ((1,) * 4,) * 2, ((1, ("in", (1,)), 1),))
        self.assertEqual(paper(board, story, 2, 3), ("ahead", [(0,), (1,), (1, 2)]))
        for lots, right in (
            ([(0,), (1,), (1, 2)], True), ([(0, 3), (1,), (0, 1, 2)], True), ([(0,), (0, 1), (0, 1, 2)], True),
            ([(), (1,), (1, 2)], False), ([(0,), (), (1, 2)], False), ([(0,), (1,), (1,)], False),
            ([(0,), (1,), (1, 2, 3)], False), ([(0,), (1,)], False), ([(0,), (1,), (1, 2), ()], False),
            ([(0,), (1, 2), (1, 2)], False), ([], False),
        ):
            self.assertIs(holds(board, story, 2, 3, ("ahead", lots)), right, lots)
        story = ((0, 3), ((1,) * 4,) * 2, ((2, ("in", (1,)), 1),))
        self.assertEqual(paper(board, story, 0, 3), ("behind", [(0, 1), (0, 1), (1,)]))
        for lots, right in (
            ([(0, 1), (0, 1), (1,)], True), ([(0, 1, 2), (0, 1), (1,)], True), ([(0, 1, 2), (0, 1, 2), (1, 2)], True),
            ([(1,), (0, 1), (1,)], False), ([(0, 1), (1,), (1,)], False), ([(0, 1), (0, 1), ()], False),
            ([(0, 1, 3), (0, 1), (1,)], False), ([(0, 1), (1,)], False), ([(0, 1), (0, 1), (1,), (1,)], False),
            ([(0, 1), (0, 1), (1, 3)], False), ([(0, 1), (0, 1, 3), (1,)], False), ([], False),
        ):
            self.assertIs(holds(board, story, 0, 3, ("behind", lots)), right, lots)

    def test_never_a_walk_and_one_of_the_others(self):
        chance = random.Random(24)
        for told in small_stories(12, 25):
            (many, ways), story = told
            if many > 3 or len(story[1]) > 3 or many ** len(story[1]) > 8:
                continue
            board, story = board_and_story(told)
            fitting = plain_fitting(*told)
            beat, place = chance.choice(list(each_place(board, story)))
            found = any(
                holds(board, story, beat, place, (word, list(lots)))
                for word, size in (("ahead", beat + 1), ("behind", len(story[1]) - beat + 1))
                for lots in itertools.product(all_lots(many), repeat=size)
            )
            self.assertNotEqual(found, any(walk[beat] == place for walk in fitting))

    def test_other_kinds_under_a_word(self):
        board, story = Board(2, [(0, 1)]), ((0,), ((1, 1),), ())
        for told in (("walk", [(0,), (0, 1)]), ("ahead", (0, 1)), ("behind", (0,)), ("ahead", ()), ("walk", [])):
            self.assertIs(holds(board, story, 1, 0, told), False)
        lots = [(0,), (0,)]
        staying = ((0,), ((0, 0),), ())
        self.assertIs(holds(board, staying, 1, 1, ("ahead", lots)), True)
        self.assertIs(holds(board, staying, 1, 1, ("beside", lots)), False)


class Refusals(unittest.TestCase):
    def test_no_stories(self):
        for many in range(1, 9):
            board = Board(many, all_pairs(many)[:4])
            for story, at in no_stories(many)[::3]:
                for beat, place in ((0, 0), (-1, -1)):
                    for ask in (
                        lambda: paper(board, story, beat, place),
                        lambda: holds(board, story, beat, place, ("walk", (0,))),
                    ):
                        with self.assertRaises(BadStory) as refused:
                            ask()
                        self.assertEqual(refused.exception.at, at)

    def test_refused_beats_and_places(self):
        for told in small_stories(1, 26):
            board, story = board_and_story(told)
            last, many = len(story[1]), len(board)
            asks = (
                lambda beat, place: paper(board, story, beat, place),
                lambda beat, place: holds(board, story, beat, place, ("walk", (0,) * (last + 1))),
                lambda beat, place: holds(board, story, beat, place, ("ahead", [])),
            )
            for ask in asks:
                for beat in (-1, last + 1) + FAR_NUMBERS[:2] + FAR_NUMBERS[-2:]:
                    for place in (0, -1, many):
                        with self.assertRaises(BadBeat) as refused:
                            ask(beat, place)
                        self.assertEqual(refused.exception.beat, beat)
                for place in (-1, many) + FAR_NUMBERS:
                    with self.assertRaises(NoPlace) as refused:
                        ask(last, place)
                    self.assertEqual(refused.exception.place, place)

    def test_what_is_handed_in_is_not_changed(self):
        board, story = Board(2, [(0, 1)]), ((0,), ((1, 1),), ())
        lots = [(0,), (0,)]
        self.assertFalse(holds(board, story, 1, 1, ("ahead", lots)))
        self.assertEqual(lots, [(0,), (0,)])


if __name__ == "__main__":
    unittest.main()
