"""Posts: each deed with each of its refusals, what is told of things, looks and wishes, and the bounds."""

import itertools
import unittest

from roamlook.boards import Board
from roamlook.errors import (
    BadAnswer, BadBeat, BadDeed, BadLook, BadLot, BadName, BadPace, BadWish, Full, Late, NoLook, NothingLeft, NoThing,
    NoWish, Right, Taken, Unfit, Wrong,
)
from roamlook.posts import MOST_LOOKS, MOST_THINGS, MOST_WISHES, Post

from look_samples import no_looks
from post_samples import BAD_NAMES, no_deeds
from samples import FAR_NUMBERS, all_pairs, no_lots, no_paces

LINE = [(0, 1), (1, 2)]
STILL = (0, 0, 0)
SLOW = (1, 1, 1)
NAMES = ("a", "b", "c", "d", "e", "f")


def line_post():
    """A line of three places, a thing that began anywhere and never moves, and one at the start that does."""
    post = Post(Board(3, LINE))
    post.do(("put", "still", (0, 1, 2), STILL))
    post.do(("put", "slow", (0,), SLOW))
    return post


class Refused(unittest.TestCase):
    def refused(self, post, deed, kind, **fields):
        """The deed is refused so, and nothing is changed by it."""
        ahead = self.all_told(post)
        with self.assertRaises(kind, msg=deed) as refused:
            post.do(deed)
        self.assertIs(type(refused.exception), kind)
        self.assertEqual(vars(refused.exception), {"word": kind.__name__, **fields}, deed)
        self.assertEqual(self.all_told(post), ahead, deed)

    def all_told(self, post):
        return (
            post.deeds(), post.undone(), post.now(), post.looks(), post.wishes(), post.notes(), post.made(),
            [(name, post.begun(name), post.story(name), post.kept(name)) for name in post.things()],
        )


class NoDeeds(Refused):
    def test_bad_deeds(self):
        for post in (Post(Board(3, LINE)), line_post()):
            for deed in no_deeds():
                self.refused(post, deed, BadDeed)

    def test_ahead_of_all_else(self):
        post = line_post()
        post.go(beats=12)
        for deed in (("beat", 1), ("put", "", (9,)), ("drop",), ("look", "none", ("x",)), ("wish", "", "none", 0, 0)):
            self.refused(post, deed, BadDeed)


class Putting(Refused):
    def test_names(self):
        post = Post(Board(3, LINE))
        for name in BAD_NAMES:
            for lot, pace in (((0,), SLOW), ((), (9,))):
                self.refused(post, ("put", name, lot, pace), BadName, name=name)
        for name in ("a", "z", "abcdefgh", "beat", "in"):
            self.assertIsNone(post.do(("put", name, (0,), SLOW)))

    def test_order(self):
        post = Post(Board(3, LINE))
        for name in NAMES:
            post.put(name, (0,))
        for lot, pace in (((0,), SLOW), ((), SLOW), ((0,), (9,)), ((), ())):
            self.refused(post, ("put", "A", lot, pace), BadName, name="A")
            self.refused(post, ("put", "a", lot, pace), Taken, name="a")
            self.refused(post, ("put", "g", lot, pace), Full)
        post.do(("drop", "a"))
        self.refused(post, ("put", "b", (), ()), Taken, name="b")
        self.refused(post, ("put", "a", (), ()), BadLot)
        self.refused(post, ("put", "a", (0,), ()), BadPace)

    def test_lots_and_paces(self):
        for many in range(1, 9):
            post = Post(Board(many))
            for lot in [()] + no_lots(many):
                for pace in ((1,) * many, ()):
                    self.refused(post, ("put", "a", lot, pace), BadLot)
            for pace in no_paces(many):
                self.refused(post, ("put", "a", (0,), pace), BadPace)

    def test_room_again_behind_a_drop(self):
        self.assertEqual(MOST_THINGS, 6)
        post = Post(Board(3, LINE))
        for name in NAMES:
            post.put(name, (0,))
        self.refused(post, ("put", "g", (0,), SLOW), Full)
        post.do(("drop", "c"))
        self.assertIsNone(post.put("g", (0,)))
        self.assertEqual(post.things(), ["a", "b", "d", "e", "f", "g"])
        self.refused(post, ("put", "h", (0,), SLOW), Full)
        self.assertEqual(len(post), 6)

    def test_pace_one_everywhere_where_none_is_handed_in(self):
        post = Post(Board(3, LINE))
        self.assertIsNone(post.put("a", (0,)))
        self.assertIsNone(post.put(pace=STILL, lot=(1,), name="b"))
        self.assertEqual(post.deeds(), [("put", "a", (0,), SLOW), ("put", "b", (1,), STILL)])
        with self.assertRaises(TypeError):
            post.put("c", (0,), SLOW)
        self.refused(post, ("put", "c", (0,), None), BadPace)


class PacingAndDropping(Refused):
    def test_pace(self):
        post = line_post()
        for pace in (SLOW, (9, 9, 9)):
            self.refused(post, ("pace", "none", pace), NoThing, name="none")
        for pace in no_paces(3):
            self.refused(post, ("pace", "slow", pace), BadPace)

    def test_paces_from_the_beat_that_is_now(self):
        post = line_post()
        post.go(beats=2)
        self.assertIsNone(post.do(("pace", "slow", STILL)))
        self.assertEqual(post.story("slow"), ((0,), (SLOW, SLOW), ()))
        post.do(("beat",))
        post.do(("pace", "slow", (2, 2, 2)))
        post.do(("pace", "slow", (0, 7, 0)))
        post.go(beats=2)
        self.assertEqual(post.story("slow")[1], (SLOW, SLOW, STILL, (0, 7, 0), (0, 7, 0)))
        self.assertEqual(post.story("still")[1], (STILL,) * 5)

    def test_drop(self):
        post = line_post()
        self.refused(post, ("drop", "none"), NoThing, name="none")
        post.look("slow", ("in", (0,)))
        post.look("still", ("in", (0, 1)))
        post.wish("q", "slow")
        post.wish("r", "still", most=2)
        self.assertIsNone(post.do(("drop", "slow")))
        self.assertEqual(post.things(), ["still"])
        self.assertEqual(post.looks(), [(1, "still", 0, ("in", (0, 1)), 1, True)])
        self.assertEqual(post.wishes(), [("r", "still", 2)])
        for deed in (("wrong", 0), ("right", 0)):
            self.refused(post, deed, NoLook, number=0)
        self.refused(post, ("unwish", "q"), NoWish, name="q")
        self.refused(post, ("drop", "slow"), NoThing, name="slow")

    def test_put_in_again_under_its_name(self):
        post = line_post()
        post.look("slow", ("in", (0,)))
        post.wish("q", "slow")
        post.go(beats=3)
        post.do(("drop", "slow"))
        post.put("slow", (1, 2), pace=(0, 1, 0))
        self.assertEqual(post.begun("slow"), 3)
        self.assertEqual(post.story("slow"), ((1, 2), (), ()))
        self.assertEqual(post.kept("slow"), 0)
        self.assertEqual((post.looks(), post.wishes()), ([], []))
        self.refused(post, ("wrong", 0), NoLook, number=0)
        self.assertEqual(post.look("slow", ("in", (1,))), 1)
        post.go()
        self.assertEqual(post.forth("slow"), [(1,), (1, 2)])


class Beats(Refused):
    def test_at_most_twelve(self):
        post = line_post()
        for beat in range(12):
            self.assertEqual(post.now(), beat)
            self.assertIsNone(post.do(("beat",)))
        self.refused(post, ("beat",), Late)
        self.assertEqual(post.now(), 12)
        self.assertEqual(len(post.story("slow")[1]), 12)
        post.undo()
        self.assertEqual(post.now(), 11)

    def test_things_that_begin_later(self):
        post = Post(Board(3, LINE))
        post.go(beats=5)
        post.put("a", (0, 1))
        post.go(beats=2)
        self.assertEqual(post.begun("a"), 5)
        self.assertEqual(post.forth("a"), [(0, 1), (0, 1, 2), (0, 1, 2)])
        post.late("a", 6, ("in", (0,)))
        self.assertEqual(post.story("a"), ((0, 1), (SLOW, SLOW), ((1, ("in", (0,)), 1),)))
        self.assertEqual(post.looks(), [(0, "a", 6, ("in", (0,)), 1, True)])
        self.assertEqual(post.forth("a"), [(0, 1), (0,), (0, 1)])
        self.assertEqual(post.known("a"), [(0,), (0,), (0, 1)])
        self.assertEqual(post.walk("a"), (0, 0, 0))


class Looks(Refused):
    def test_numbers(self):
        post = line_post()
        self.assertEqual(post.do(("look", "still", ("in", (0, 1)), 1)), 0)
        post.go(beats=2)
        self.assertEqual(post.do(("late", "slow", 1, ("near", 2, 7), 2)), 1)
        self.assertEqual(post.look("still", ("in", (2,)), answer=0), 2)
        self.assertEqual(post.late("still", 0, ("in", (0, 1))), 3)
        self.assertEqual(post.looks(), [
            (0, "still", 0, ("in", (0, 1)), 1, True), (1, "slow", 1, ("near", 2, 7), 2, True),
            (2, "still", 2, ("in", (2,)), 0, True), (3, "still", 0, ("in", (0, 1)), 1, True),
        ])
        self.assertEqual(post.deeds()[-2:], [("look", "still", ("in", (2,)), 0), ("late", "still", 0, ("in", (0, 1)), 1)])

    def test_answer_one_where_none_is_handed_in(self):
        post = line_post()
        post.look(look=("in", (0, 1)), name="still")
        post.late(answer=0, look=("in", (2,)), beat=0, name="still")
        self.assertEqual([row[4] for row in post.looks()], [1, 0])
        for ask in (lambda: post.look("still", ("in", (0,)), 1), lambda: post.late("still", 0, ("in", (0,)), 1)):
            with self.assertRaises(TypeError):
                ask()

    def test_order(self):
        post = line_post()
        for number in range(24):
            post.look("still", ("in", (0, 1)))
        bad, good, unfit = ("in", (3,)), ("in", (0,)), ("in", (2,))
        for look, answer in ((bad, 5), (good, 5), (good, 1), (unfit, 1)):
            self.refused(post, ("look", "none", look, answer), NoThing, name="none")
            for beat in (0, 1):
                self.refused(post, ("late", "none", beat, look, answer), NoThing, name="none")
            self.refused(post, ("late", "still", 1, look, answer), BadBeat, beat=1)
        for answer in (5, 1):
            self.refused(post, ("look", "still", bad, answer), BadLook)
            self.refused(post, ("late", "still", 0, bad, answer), BadLook)
        self.refused(post, ("look", "still", unfit, 5), BadAnswer)
        self.refused(post, ("late", "still", 0, unfit, 5), BadAnswer)
        self.refused(post, ("look", "still", unfit, 1), Full)
        self.refused(post, ("late", "still", 0, unfit, 1), Full)
        post.undo()
        self.refused(post, ("look", "still", unfit, 1), Unfit, at=0)
        self.refused(post, ("late", "still", 0, unfit, 1), Unfit, at=0)

    def test_beats_of_late_looks(self):
        post = Post(Board(2, all_pairs(2)))
        post.go(beats=4)
        post.put("a", (0, 1))
        post.go(beats=3)
        for beat in (-1, 0, 3, 8, 9, 12) + FAR_NUMBERS:
            self.refused(post, ("late", "a", beat, ("in", (0,)), 1), BadBeat, beat=beat)
        for number, beat in enumerate((4, 5, 6, 7)):
            self.assertEqual(post.late("a", beat, ("in", (0,))), number)

    def test_no_looks(self):
        for many in range(1, 9):
            post = Post(Board(many, all_pairs(many)[:5]))
            post.put("a", (0,))
            for look in no_looks(many):
                self.refused(post, ("look", "a", look, 0), BadLook)
                self.refused(post, ("late", "a", 0, look, 99), BadLook)

    def test_answers_that_no_place_of_the_board_gives(self):
        post = line_post()
        for look, given in (
            (("in", (0,)), (0, 1)), (("in", ()), (0,)), (("in", (0, 1, 2)), (1,)), (("parts", ((2,), (0, 1))), (0, 1)),
            (("near", 2, 1), (0, 1, 2)), (("near", 0, 7), (0, 8)), (("near", 1, 0), (0, 1)),
        ):
            for answer in range(-2, 11):
                if answer not in given:
                    self.refused(post, ("look", "slow", look, answer), BadAnswer)
                    self.refused(post, ("late", "still", 0, look, answer), BadAnswer)

    def test_true_is_no_number(self):
        post = line_post()
        post.look("still", ("in", (0, 1)))
        self.refused(post, ("look", "still", ("in", (0,)), True), BadAnswer)
        self.refused(post, ("late", "still", False, ("in", (0,)), 1), BadBeat, beat=False)
        self.refused(post, ("wrong", False), NoLook, number=False)
        self.refused(post, ("wish", "q", "still", True), BadWish, most=True)

    def test_no_room_again_for_looks(self):
        self.assertEqual(MOST_LOOKS, 24)
        post = line_post()
        for number in range(23):
            self.assertEqual(post.look("slow", ("in", (0,))), number)
        post.do(("drop", "slow"))
        self.assertEqual(post.looks(), [])
        self.assertEqual(post.look("still", ("in", (0,))), 23)
        self.refused(post, ("look", "still", ("in", (0,)), 1), Full)
        post.do(("wrong", 23))
        self.refused(post, ("late", "still", 0, ("in", (0,)), 1), Full)
        post.undo()
        post.undo()
        # Taken back, the number is free again.
        self.assertEqual(post.look("still", ("in", (1,))), 23)

    def test_unfit_at_the_first_beat_of_the_post(self):
        post = Post(Board(3, LINE))
        post.go(beats=2)
        post.put("a", (0,))
        post.go(beats=3)
        end = ("in", (2,))
        self.refused(post, ("late", "a", 2, end, 1), Unfit, at=2)
        self.refused(post, ("late", "a", 3, end, 1), Unfit, at=3)
        self.assertEqual(post.late("a", 4, end), 0)
        # Seen at the end at beat 4 it cannot be ahead of it later: refused at the later beat.
        self.refused(post, ("look", "a", ("in", (0, 1)), 1), Unfit, at=5)
        # Seen at the start at beat 3 it cannot be at the end one beat later: refused there, not at beat 3.
        self.refused(post, ("late", "a", 3, ("in", (0,)), 1), Unfit, at=4)
        self.assertEqual(post.late("a", 3, ("in", (1,))), 1)
        self.assertEqual(post.known("a"), [(0,), (1,), (2,), (2,)])

    def test_wrong_and_right(self):
        post = line_post()
        post.look("still", ("in", (0,)))
        for number in (-1, 1, 2, 24) + FAR_NUMBERS:
            self.refused(post, ("wrong", number), NoLook, number=number)
            self.refused(post, ("right", number), NoLook, number=number)
        self.refused(post, ("right", 0), Right, number=0)
        self.assertIsNone(post.do(("wrong", 0)))
        self.refused(post, ("wrong", 0), Wrong, number=0)
        self.assertEqual(post.looks(), [(0, "still", 0, ("in", (0,)), 1, False)])
        self.assertEqual(post.story("still"), ((0, 1, 2), (), ()))
        self.assertEqual(post.look("still", ("in", (2,))), 1)
        self.refused(post, ("right", 0), Unfit, at=0)
        post.do(("wrong", 1))
        self.assertIsNone(post.do(("right", 0)))
        self.assertEqual(post.story("still"), ((0, 1, 2), (), ((0, ("in", (0,)), 1),)))
        self.refused(post, ("right", 0), Right, number=0)
        self.refused(post, ("right", 1), Unfit, at=0)

    def test_right_is_unfit_at_a_later_beat(self):
        post = Post(Board(3, LINE))
        post.go(beats=1)
        post.put("a", (0, 1))
        post.look("a", ("in", (0,)))
        post.go(beats=2)
        post.do(("wrong", 0))
        post.late("a", 2, ("in", (2,)))
        self.refused(post, ("right", 0), Unfit, at=2)

    def test_only_those_that_count_stand_in_the_story(self):
        post = line_post()
        for place in (0, 1, 2):
            post.look("still", ("in", (place, 2) if place < 2 else (0, 2)))
        post.do(("wrong", 1))
        seen = ((0, ("in", (0, 2)), 1), (0, ("in", (0, 2)), 1))
        self.assertEqual(post.story("still")[2], seen)
        self.assertEqual([row[5] for row in post.looks()], [True, False, True])


class Wishes(Refused):
    def test_order(self):
        post = line_post()
        for question in NAMES:
            post.wish(question, "still")
        for name, most in itertools.product(("still", "none"), (1, 0)):
            self.refused(post, ("wish", "A", name, most), BadName, name="A")
            self.refused(post, ("wish", "a", name, most), Taken, name="a")
            self.refused(post, ("wish", "g", name, most), Full)
        post.do(("unwish", "a"))
        self.refused(post, ("wish", "b", "none", 0), Taken, name="b")
        self.refused(post, ("wish", "a", "none", 0), NoThing, name="none")
        self.refused(post, ("wish", "a", "still", 0), BadWish, most=0)

    def test_names(self):
        post = line_post()
        for question in BAD_NAMES:
            self.refused(post, ("wish", question, "none", 0), BadName, name=question)
        # A wish may have the name of a thing.
        for question in ("still", "a", "abcdefgh", "wish"):
            self.assertIsNone(post.wish(question, "still"))

    def test_most(self):
        post = line_post()
        for most in (0, -1) + FAR_NUMBERS:
            self.refused(post, ("wish", "q", "still", most), BadWish, most=most)
        for most in range(1, 9):
            self.assertIsNone(post.wish("q", "still", most=most))
            self.assertIs(post.answer("q"), most >= 3)
            post.do(("unwish", "q"))

    def test_one_place_where_nothing_is_handed_in(self):
        post = line_post()
        post.wish(name="still", question="q")
        self.assertEqual(post.wishes(), [("q", "still", 1)])
        with self.assertRaises(TypeError):
            post.wish("r", "still", 2)

    def test_room_again_behind_an_unwish(self):
        self.assertEqual(MOST_WISHES, 6)
        post = line_post()
        for question in NAMES[::-1]:
            post.wish(question, "slow", most=2)
        self.refused(post, ("wish", "g", "slow", 1), Full)
        self.assertIsNone(post.do(("unwish", "d")))
        self.assertIsNone(post.wish("g", "slow", most=8))
        names = [question for question, name, most in post.wishes()]
        self.assertEqual(names, ["a", "b", "c", "e", "f", "g"])
        self.refused(post, ("wish", "h", "slow", 1), Full)

    def test_room_again_behind_a_drop(self):
        post = line_post()
        for question in NAMES:
            post.wish(question, "slow")
        post.do(("drop", "slow"))
        for question in NAMES:
            self.assertIsNone(post.wish(question, "still"))

    def test_unwish(self):
        post = line_post()
        for question in ("q", "", "Q"):
            self.refused(post, ("unwish", question), NoWish, name=question)
        post.wish("q", "slow")
        self.assertIsNone(post.do(("unwish", "q")))
        self.refused(post, ("unwish", "q"), NoWish, name="q")

    def test_answers(self):
        post = line_post()
        post.wish("q", "slow", most=2)
        told = []
        for beat in range(4):
            told.append(post.answer("q"))
            post.do(("beat",))
        self.assertEqual(told, [True, True, False, False])
        post.look("slow", ("in", (1,)))
        self.assertIs(post.answer("q"), True)
        self.assertIs(type(post.answer(question="q")), bool)


class Telling(unittest.TestCase):
    def test_a_new_post(self):
        board = Board(3, LINE)
        post = Post(board=board)
        self.assertEqual(post.board(), board)
        self.assertEqual((post.now(), post.made(), len(post)), (0, 0, 0))
        for told in (post.things(), post.looks(), post.wishes(), post.notes(), post.deeds(), post.undone()):
            self.assertEqual(told, [])
            self.assertIs(type(told), list)
        for ask in (post.undo, post.redo):
            with self.assertRaises(NothingLeft):
                ask()

    def test_no_thing(self):
        post = line_post()
        for name in ("none", "", "Slow", "abcdefghijkl"):
            for ask in (post.begun, post.story, post.forth, post.known, post.walk, post.kept):
                with self.assertRaises(NoThing) as refused:
                    ask(name=name)
                self.assertEqual(refused.exception.name, name)
            with self.assertRaises(NoWish) as refused:
                post.answer(question=name)
            self.assertEqual(refused.exception.name, name)
        self.assertEqual(post.made(), 0)

    def test_told_lists_are_new_ones(self):
        post = line_post()
        post.look("slow", ("in", (0,)))
        post.wish("q", "slow")
        post.go(beats=2)
        post.do(("beat",))
        post.undo()
        asks = (
            post.things, post.looks, post.wishes, post.notes, post.deeds, post.undone, lambda: post.forth("slow"),
            lambda: post.known("slow"), lambda: post.go(beats=0), lambda: post.batch([]),
        )
        for ask in asks:
            kept = list(ask())
            told = ask()
            told.append("more")
            told[0:1] = []
            self.assertEqual(ask(), kept)
        self.assertEqual([len(ask()) > 0 for ask in asks], [True] * 8 + [False] * 2)

    def test_handed_lists_stay_as_they_were(self):
        post = line_post()
        deeds = [("beat",), ("look", "slow", ("in", (0,)), 1), ("beat",)]
        kept = list(deeds)
        self.assertEqual(post.batch(deeds), [None, 0, None])
        self.assertEqual(deeds, kept)
        deeds.clear()
        self.assertEqual(post.deeds()[2:], kept)

    def test_repr(self):
        post = Post(Board(3, LINE))
        self.assertEqual(repr(post), "Post(0 things, 0 deeds)")
        post.put("a", (0,))
        self.assertEqual(repr(post), "Post(1 things, 1 deeds)")
        post.go(beats=12)
        self.assertEqual(repr(post), "Post(1 things, 13 deeds)")

    def test_alike(self):
        post, other = line_post(), line_post()
        self.assertTrue(post == other)
        other.known("slow")
        other.do(("beat",))
        self.assertFalse(post == other)
        self.assertTrue(post != other)
        other.undo()
        # What could be done again and the counts are no matter.
        self.assertTrue(post == other)
        self.assertFalse(Post(Board(3, LINE)) == Post(Board(3)))
        self.assertTrue(Post(Board(3, LINE)) == Post(Board(3, LINE[::-1])))
        for thing in (None, 0, "Post(0 things, 0 deeds)", [], Board(3, LINE), post.deeds()):
            self.assertFalse(post == thing)
        one, two = Post(Board(3, LINE)), Post(Board(3, LINE))
        one.batch([("put", "a", (0,), SLOW), ("put", "b", (0,), SLOW)])
        two.batch([("put", "b", (0,), SLOW), ("put", "a", (0,), SLOW)])
        self.assertFalse(one == two)

    def test_asked_again_the_same_is_told(self):
        post = line_post()
        post.go(beats=4)
        for ask in (post.forth, post.known, post.walk, post.story):
            for name in ("slow", "still"):
                self.assertEqual(ask(name), ask(name))

    def test_the_greatest_post(self):
        pairs = all_pairs(8)
        post = Post(Board(8, pairs))
        for name in NAMES:
            post.put(name, tuple(range(8)), pace=(7,) * 8)
            post.wish(name, name, most=4)
        for beat in range(12):
            for name in NAMES[:2]:
                post.look(name, ("in", tuple(sorted({beat % 8, 3}))))
            post.do(("beat",))
        self.assertEqual(len(post.looks()), 24)
        for name in NAMES:
            self.assertEqual(len(post.known(name)), 13)
            self.assertEqual(len(post.walk(name)), 13)
        while post.deeds():
            post.undo()
        while post.undone():
            post.redo()
        self.assertEqual(len(post.deeds()), 12 + 24 + 12)


if __name__ == "__main__":
    unittest.main()
