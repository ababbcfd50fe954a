"""Talks: what they are made from, letters, when they come, and what hands have heard."""

import itertools
import random
import unittest

from roamlook.errors import BadBeat, BadLost, BadTalk, NoHand
from roamlook.talks import Talk

from samples import FAR_NUMBERS
from talk_samples import PlainTalk, chance_delays, talk_plans

LOOK = ("in", (0,))
PAIR = ((0, 1), (1, 0))


def no_delays():
    """Tuples that are no delays."""
    bad = [(), ((),), ((0,),), ((0, 1),), ((0, 1), (1,)), ((0,), (1, 0)), ((0, 1), (1, 0, 1)), ((0, 1, 1), (1, 0, 1))]
    bad.append(chance_delays(random.Random(1), 5))
    bad.append(chance_delays(random.Random(1), 6))
    for many in (2, 3, 4):
        good = chance_delays(random.Random(many), many)
        for hand, other in itertools.product(range(many), range(many)):
            for delay in (-1, 0, 1, 10, 11) + FAR_NUMBERS:
                if delay != 0 if hand == other else not 1 <= delay <= 9:
                    row = good[hand][:other] + (delay,) + good[hand][other + 1:]
                    bad.append(good[:hand] + (row,) + good[hand + 1:])
        bad.append(good + good[:1])
        bad.append(good[:-1])
    return bad


def no_looks_of(many):
    """Tuples that are no looks of a talk with so many hands."""
    good = (3, 0, LOOK)
    rows = [(beat, 0, LOOK) for beat in (-1, 13, 14) + FAR_NUMBERS if not 0 <= beat <= 12]
    rows += [(3, hand, LOOK) for hand in (-1, many, many + 1) + FAR_NUMBERS]
    rows += [(), (3,), (3, 0), (3, 0, LOOK, 1), (3, 0, ())]
    bad = [(row,) for row in rows] + [(good, row) for row in rows] + [(row, good) for row in rows]
    bad += [(good,) * 7, (good,) * 8, ((3, 0, LOOK), (2, 0, LOOK)), ((3, 0, LOOK), (4, 1, LOOK), (0, 0, LOOK))]
    bad += [((12, 0, LOOK), (0, 0, LOOK)), ((1, 0, LOOK), (1, 1, LOOK), (2, 0, LOOK), (1, 0, LOOK))]
    return bad


class Making(unittest.TestCase):
    def test_what_is_told(self):
        for delays, looks in talk_plans():
            for form in (tuple, list):
                talk, plain = Talk(delays, form(looks)), PlainTalk(delays, looks)
                self.assertEqual(talk.hands(), len(delays))
                self.assertEqual(talk.looks(), list(looks))
                self.assertEqual(talk.letters(), plain.letters)
                self.assertEqual(talk.letters(), sorted(talk.letters()))
                self.assertEqual([talk.comes(letter) for letter in talk.letters()], [plain.comes(x) for x in plain.letters])

    def test_at_the_bounds(self):
        for many in (2, 3, 4):
            for delay in (1, 9):
                delays = tuple(tuple(0 if one == other else delay for other in range(many)) for one in range(many))
                looks = [(0, 0, LOOK)] * 3 + [(12, many - 1, LOOK)] * 3
                talk = Talk(delays, looks)
                self.assertEqual(len(talk.letters()), 6 * (many - 1))
                self.assertEqual(talk.comes((0, 1)), delay)
                self.assertEqual(talk.comes((5, 0)), 12 + delay)
                self.assertEqual(Talk(delays, ()).letters(), [])

    def test_of_a_boards_looks_it_knows_nothing(self):
        for look in (("in", (99,)), ("",), ("far", 1, 2, 3), ("near",), ("x y", "z")):
            self.assertEqual(Talk(PAIR, ((0, 0, look),)).looks(), [(0, 0, look)])

    def test_wrong_delays_go_first(self):
        for delays in no_delays():
            for looks in ((), ((0, 0, LOOK),), ((13, 0, LOOK),), ((0, 9, LOOK),), ((0, 0, LOOK),) * 7):
                with self.assertRaises(BadTalk, msg=delays) as refused:
                    Talk(delays, looks)
                self.assertEqual(refused.exception.at, 0)

    def test_wrong_looks(self):
        for many in (2, 3, 4):
            delays = chance_delays(random.Random(5), many)
            for looks in no_looks_of(many):
                for form in (tuple, list):
                    with self.assertRaises(BadTalk, msg=looks) as refused:
                        Talk(delays, form(looks))
                    self.assertEqual(refused.exception.at, 1)

    def test_true_is_no_number(self):
        for delays, looks, at in (
            (((0, True), (1, 0)), (), 0), (((False, 1), (1, 0)), (), 0), (PAIR, ((True, 0, LOOK),), 1),
            (PAIR, ((0, False, LOOK),), 1),
        ):
            with self.assertRaises(BadTalk) as refused:
                Talk(delays, looks)
            self.assertEqual(refused.exception.at, at)

    def test_kept_as_a_copy_and_told_as_new_ones(self):
        looks = [(0, 0, LOOK), (1, 1, LOOK)]
        talk = Talk(PAIR, looks)
        looks.clear()
        self.assertEqual(talk.looks(), [(0, 0, LOOK), (1, 1, LOOK)])
        talk.looks().clear()
        talk.letters().clear()
        talk.heard(0, 5).clear()
        self.assertEqual(talk.looks(), [(0, 0, LOOK), (1, 1, LOOK)])
        self.assertEqual(talk.letters(), [(0, 1), (1, 0)])
        self.assertEqual(talk.heard(0, 5), [0, 1])

    def test_what_is_no_letter(self):
        talk = Talk(((0, 1, 2), (1, 0, 1), (1, 1, 0)), ((0, 0, LOOK), (1, 1, LOOK)))
        for letter in ((0, 0), (1, 1), (2, 0), (-1, 1), (0, 3), (0, -1), (), (0,), (0, 1, 1), (999999999999, 1)):
            with self.assertRaises(BadLost):
                talk.comes(letter)

    def test_by_names_in_any_order(self):
        talk = Talk(looks=((0, 0, LOOK),), delays=PAIR)
        self.assertEqual(talk.comes(letter=(0, 1)), 1)
        self.assertEqual(talk.heard(lost=(), beat=1, hand=1), [0])
        self.assertEqual(talk.heard(1, 1, lost=((0, 1),)), [])
        with self.assertRaises(TypeError):
            talk.heard(1, 1, ())


class Hearing(unittest.TestCase):
    def test_by_a_plain_reckoning(self):
        chance = random.Random(82)
        for delays, looks in talk_plans(12, 83):
            talk, plain = Talk(delays, looks), PlainTalk(delays, looks)
            for count in (0, 1, 2, 4, 18):
                lost = tuple(sorted(chance.sample(plain.letters, min(count, len(plain.letters)))))
                played = plain.play(lost, 24)
                for beat, hand in itertools.product(range(25), range(len(delays))):
                    told = talk.heard(hand, beat, lost=lost)
                    self.assertIs(type(told), list)
                    self.assertEqual(told, played[beat][hand][0], (delays, looks, lost, beat, hand))

    def test_far_beats(self):
        for delays, looks in talk_plans(2, 84):
            talk, plain = Talk(delays, looks), PlainTalk(delays, looks)
            for hand in range(len(delays)):
                for beat in (21, 300, 999999999999):
                    self.assertEqual(talk.heard(hand, beat), plain.play((), 21)[-1][hand][0])

    def test_letters_go_on_with_what_was_heard(self):
        delays = ((0, 2, 9), (9, 0, 1), (9, 9, 0))
        talk = Talk(delays, ((0, 0, LOOK), (2, 1, LOOK)))
        self.assertEqual([talk.heard(2, beat) for beat in (0, 1, 2, 3, 4)], [[], [], [], [0, 1], [0, 1]])
        self.assertEqual([talk.heard(1, beat) for beat in (0, 1, 2)], [[], [], [0, 1]])
        self.assertEqual(talk.heard(2, 3, lost=((0, 1),)), [1])
        self.assertEqual(talk.heard(2, 8, lost=((0, 1),)), [1])
        self.assertEqual(talk.heard(2, 9, lost=((0, 1),)), [0, 1])
        self.assertEqual(talk.heard(2, 9, lost=((0, 1), (0, 2))), [1])
        self.assertEqual(talk.heard(2, 300, lost=((1, 2),)), [0])

    def test_a_letter_that_comes_a_beat_too_late_is_not_gone_on_with(self):
        delays = ((0, 3, 9), (9, 0, 1), (9, 9, 0))
        talk = Talk(delays, ((0, 0, LOOK), (2, 1, LOOK)))
        self.assertEqual(talk.heard(2, 3), [1])
        self.assertEqual(talk.heard(1, 3), [0, 1])

    def test_two_looks_of_one_beat(self):
        talk = Talk(((0, 2), (2, 0)), ((1, 0, LOOK), (1, 0, LOOK), (1, 1, LOOK)))
        self.assertEqual(talk.heard(0, 1), [0, 1])
        # The letter of the first look is sent ahead of the second.
        self.assertEqual(talk.heard(1, 3, lost=((1, 1),)), [0, 2])
        self.assertEqual(talk.heard(1, 3, lost=((0, 1),)), [0, 1, 2])
        self.assertEqual(talk.heard(0, 2), [0, 1])
        self.assertEqual(talk.heard(0, 3), [0, 1, 2])

    def test_own_looks_from_their_beat_on(self):
        talk = Talk(PAIR, ((4, 0, LOOK),))
        self.assertEqual([talk.heard(0, beat) for beat in range(6)], [[]] * 4 + [[0]] * 2)
        self.assertEqual([talk.heard(1, beat) for beat in range(6)], [[]] * 5 + [[0]])

    def test_more_lost_letters_never_let_more_be_heard(self):
        chance = random.Random(85)
        for delays, looks in talk_plans(4, 86):
            talk = Talk(delays, looks)
            letters = talk.letters()
            for turn in range(4):
                more = chance.sample(letters, chance.randint(0, len(letters)))
                fewer = tuple(sorted(more[:len(more) // 2]))
                for hand in range(len(delays)):
                    beat = chance.randint(0, 21)
                    self.assertLessEqual(
                        set(talk.heard(hand, beat, lost=tuple(sorted(more)))), set(talk.heard(hand, beat, lost=fewer)),
                    )


class HearingRefused(unittest.TestCase):
    def setUp(self):
        self.talk = Talk(((0, 1, 2), (1, 0, 1), (1, 1, 0)), ((0, 0, LOOK), (1, 1, LOOK)))
        self.bad_lost = [
            ((0, 0),), ((0, 1), (0, 1)), ((0, 2), (0, 1)), ((1, 0), (0, 1)), ((2, 0),), ((0, 3),), ((0, -1),), ((-1, 0),),
            ((0, 1), (1, 1)), ((),), ((0,),), ((0, 1, 2),), ((0, 1), (0, 2), (1, 0), (1, 2), (1, 2)),
        ]

    def test_hands_go_first(self):
        for hand in (-1, 3, 4, -3) + FAR_NUMBERS:
            for beat in (0, -1):
                for lost in ((), self.bad_lost[0]):
                    with self.assertRaises(NoHand) as refused:
                        self.talk.heard(hand, beat, lost=lost)
                    self.assertEqual(refused.exception.hand, hand)

    def test_then_beats(self):
        for beat in (-1, -2, -999999999999):
            for lost in ((), self.bad_lost[0]):
                with self.assertRaises(BadBeat) as refused:
                    self.talk.heard(2, beat, lost=lost)
                self.assertEqual(refused.exception.beat, beat)

    def test_then_lost_letters(self):
        for lost in self.bad_lost:
            with self.assertRaises(BadLost, msg=lost):
                self.talk.heard(0, 0, lost=lost)

    def test_all_letters_may_be_lost(self):
        lost = tuple(self.talk.letters())
        self.assertEqual([self.talk.heard(hand, 300, lost=lost) for hand in range(3)], [[0], [1], []])


if __name__ == "__main__":
    unittest.main()
