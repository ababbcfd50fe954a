"""Taking back and doing again, several deeds as one, notes and twins."""

import unittest

from roamlook.boards import Board
from roamlook.errors import BadDeed, BadLot, Broken, Full, Late, NothingLeft, NoThing, Taken, Unfit
from roamlook.posts import Post

LINE = [(0, 1), (1, 2)]
SLOW = (1, 1, 1)
DEEDS = [
    ("put", "a", (0,), SLOW), ("wish", "q", "a", 1), ("beat",), ("look", "a", ("in", (1,)), 1), ("wish", "r", "a", 2),
    ("put", "b", (0, 1, 2), (0, 0, 0)), ("beat",), ("late", "a", 1, ("in", (1, 2)), 1), ("wrong", 0), ("pace", "a", (0, 0, 0)),
    ("beat",), ("unwish", "r"), ("right", 0), ("drop", "b"), ("put", "b", (2,), SLOW), ("look", "b", ("in", (2,)), 1),
]


def made_post(deeds=()):
    post = Post(Board(3, LINE))
    post.batch(list(deeds))
    return post


def all_but_counts(post):
    return (
        post.deeds(), post.now(), post.things(), post.looks(), post.wishes(), post.notes(),
        [(post.begun(name), post.story(name)) for name in post.things()],
    )


def all_told(post):
    return all_but_counts(post), post.undone(), post.made(), [post.kept(name) for name in post.things()]


class BackAndAgain(unittest.TestCase):
    def test_all_taken_back_and_all_done_again(self):
        post = made_post()
        behind = [all_but_counts(post)]
        for deed in DEEDS:
            post.do(deed)
            behind.append(all_but_counts(post))
        for count in range(len(DEEDS) - 1, -1, -1):
            self.assertEqual(post.undo(), DEEDS[count])
            self.assertEqual(all_but_counts(post), behind[count])
            self.assertEqual(post.undone(), DEEDS[count:])
        with self.assertRaises(NothingLeft) as refused:
            post.undo()
        self.assertEqual(vars(refused.exception), {"word": "NothingLeft"})
        for count, deed in enumerate(DEEDS, start=1):
            self.assertEqual(post.redo(), deed)
            self.assertEqual(all_but_counts(post), behind[count])
            self.assertEqual(post.undone(), DEEDS[count:])
        with self.assertRaises(NothingLeft):
            post.redo()
        self.assertEqual(post, made_post(DEEDS))

    def test_numbers_of_looks_that_were_taken_back_are_given_again(self):
        post = made_post([("put", "a", (0, 1), SLOW)])
        self.assertEqual(post.look("a", ("in", (0,))), 0)
        self.assertEqual(post.look("a", ("in", (0,))), 1)
        post.undo()
        self.assertEqual(post.look("a", ("in", (1,)), answer=0), 1)

    def test_a_deed_lets_go_of_what_could_be_done_again(self):
        post = made_post(DEEDS)
        post.undo()
        post.undo()
        post.do(("beat",))
        self.assertEqual(post.undone(), [])
        with self.assertRaises(NothingLeft):
            post.redo()

    def test_a_refused_deed_and_a_question_do_not(self):
        post = made_post(DEEDS)
        for turn in range(6):
            post.undo()
        left = post.undone()
        for deed, kind in ((("drop", "none"), NoThing), (("beat",) * 2, BadDeed), (("put", "a", (), ()), Taken)):
            with self.assertRaises(kind):
                post.do(deed)
            self.assertEqual(post.undone(), left)
        for ask in (post.known, post.forth, post.walk, post.story, post.kept, post.begun):
            ask("a")
        post.answer("q")
        post.twin()
        post.batch([])
        post.go(beats=0)
        with self.assertRaises(Broken):
            post.go(beats=20)
        with self.assertRaises(Broken):
            post.batch([("beat",), ("drop", "none")])
        self.assertEqual(post.undone(), left)
        self.assertEqual([post.redo() for turn in range(6)], left)

    def test_behind_a_taking_back_deeds_go_on_from_there(self):
        post = made_post(DEEDS)
        for turn in range(8):
            post.undo()
        post.do(("beat",))
        self.assertEqual(post, made_post(DEEDS[:8] + [("beat",)]))
        self.assertEqual(all_but_counts(post), all_but_counts(made_post(DEEDS[:8] + [("beat",)])))
        self.assertEqual(post.known("a"), made_post(DEEDS[:8] + [("beat",)]).known("a"))

    def test_the_count_of_made_lots_never_goes_back(self):
        post = made_post()
        most = 0
        for deed in DEEDS:
            post.do(deed)
            self.assertGreaterEqual(post.made(), most)
            most = post.made()
        for turn in DEEDS:
            post.undo()
            self.assertEqual(post.made(), most)
        for turn in DEEDS:
            post.redo()
            self.assertEqual(post.made(), most)


class Batches(unittest.TestCase):
    def test_each_is_a_deed_of_its_own(self):
        post = made_post()
        self.assertEqual(post.batch(deeds=DEEDS), [None] * 3 + [0] + [None] * 3 + [1] + [None] * 7 + [2])
        self.assertEqual(post.deeds(), DEEDS)
        one = made_post()
        for deed in DEEDS:
            one.do(deed)
        self.assertEqual(all_told(post), all_told(one))
        self.assertEqual(post.undo(), DEEDS[-1])
        self.assertEqual(post.deeds(), DEEDS[:-1])

    def test_broken_leaves_all_as_ahead(self):
        for count in range(len(DEEDS)):
            post = made_post(DEEDS[:count])
            post.do(("beat",))
            post.undo()
            for name in post.things():
                post.forth(name)
            ahead = all_told(post)
            for refused_deed, kind in ((("drop", "none"), NoThing), (("put", "c", (), ()), BadLot), ([], BadDeed)):
                for deeds in (DEEDS[count:] + [refused_deed], [refused_deed] + DEEDS[count:]):
                    with self.assertRaises(Broken) as refused:
                        post.batch(deeds)
                    at = deeds.index(refused_deed)
                    self.assertEqual(vars(refused.exception), {"word": "Broken", "at": at})
                    self.assertIs(type(refused.exception.__cause__), kind)
                    self.assertEqual(all_told(post), ahead)

    def test_from_its_refusal(self):
        post = made_post(DEEDS)
        for deed, kind, field in (
            (("late", "a", 0, ("in", (2,)), 1), Unfit, {"at": 0}), (("drop", "none"), NoThing, {"name": "none"}),
            (("put", "a", (0,), SLOW), Taken, {"name": "a"}),
        ):
            with self.assertRaises(Broken) as refused:
                post.batch([("beat",), deed])
            cause = refused.exception.__cause__
            self.assertIs(type(cause), kind)
            self.assertEqual(vars(cause), {"word": kind.__name__, **field})
            self.assertEqual(refused.exception.at, 1)

    def test_full_within_a_batch(self):
        post = made_post()
        with self.assertRaises(Broken) as refused:
            post.batch([("put", name, (0,), SLOW) for name in "abcdefg"])
        self.assertEqual(refused.exception.at, 6)
        self.assertIs(type(refused.exception.__cause__), Full)
        self.assertEqual(len(post), 0)

    def test_of_none_nothing_is_done(self):
        post = made_post(DEEDS)
        post.undo()
        ahead = all_told(post)
        self.assertEqual(post.batch([]), [])
        self.assertEqual(post.go(beats=0), [])
        self.assertEqual(all_told(post), ahead)

    def test_go(self):
        post = made_post(DEEDS[:1])
        self.assertEqual(post.go(), [None])
        self.assertEqual(post.go(beats=3), [None] * 3)
        self.assertEqual(post.deeds(), DEEDS[:1] + [("beat",)] * 4)
        self.assertEqual(post.now(), 4)
        for beats, at in ((9, 8), (10, 8), (300, 8), (999999999999, 8)):
            with self.assertRaises(Broken) as refused:
                post.go(beats=beats)
            self.assertEqual(refused.exception.at, at)
            self.assertIs(type(refused.exception.__cause__), Late)
            self.assertEqual(post.now(), 4)
        self.assertEqual(post.go(beats=8), [None] * 8)
        with self.assertRaises(Broken) as refused:
            post.go()
        self.assertEqual(refused.exception.at, 0)
        self.assertEqual(post.undo(), ("beat",))
        self.assertEqual(post.now(), 11)
        with self.assertRaises(TypeError):
            post.go(1)


class Notes(unittest.TestCase):
    def test_each_deed_by_which_an_answer_turns(self):
        post = made_post([("put", "a", (0,), SLOW), ("wish", "q", "a", 1)])
        self.assertEqual(post.notes(), [])
        post.do(("beat",))
        self.assertEqual(post.notes(), [(3, "q", True, False)])
        post.do(("beat",))
        post.look("a", ("in", (0,)))
        self.assertEqual(post.notes()[1:], [(5, "q", False, True)])
        post.do(("wrong", 0))
        self.assertEqual(post.notes()[2:], [(6, "q", True, False)])
        post.do(("right", 0))
        self.assertEqual(post.notes()[3:], [(7, "q", False, True)])
        post.do(("beat",))
        post.late("a", 3, ("in", (1,)))
        self.assertEqual(post.notes()[4:], [(8, "q", True, False), (9, "q", False, True)])

    def test_a_wish_that_is_put_in_gives_none(self):
        post = made_post([("put", "a", (0, 1), SLOW), ("wish", "q", "a", 1), ("wish", "r", "a", 2)])
        self.assertEqual(post.notes(), [])
        post.do(("unwish", "q"))
        post.look("a", ("in", (0,)))
        post.wish("q", "a")
        self.assertEqual(post.notes(), [])
        self.assertIs(post.answer("q"), True)

    def test_a_wish_that_goes_gives_none(self):
        post = made_post([("put", "a", (0,), SLOW), ("wish", "q", "a", 1), ("wish", "r", "a", 1)])
        post.do(("unwish", "r"))
        post.do(("drop", "a"))
        self.assertEqual(post.notes(), [])

    def test_wishes_by_their_names(self):
        post = made_post([("put", "a", (0,), SLOW), ("put", "b", (1,), SLOW)])
        for question, name, most in (("z", "a", 1), ("m", "b", 1), ("c", "a", 1), ("n", "a", 2), ("d", "b", 2)):
            post.wish(question, name, most=most)
        post.do(("beat",))
        self.assertEqual(post.notes(), [(8, "c", True, False), (8, "m", True, False), (8, "z", True, False)])
        post.do(("beat",))
        self.assertEqual(post.notes()[3:], [(9, "n", True, False)])

    def test_taken_back_with_their_deed(self):
        post = made_post([("put", "a", (0,), SLOW), ("wish", "q", "a", 1), ("beat",)])
        self.assertEqual(len(post.notes()), 1)
        post.undo()
        self.assertEqual(post.notes(), [])
        post.redo()
        self.assertEqual(post.notes(), [(3, "q", True, False)])
        post.undo()
        post.do(("pace", "a", (0, 0, 0)))
        post.do(("beat",))
        self.assertEqual(post.notes(), [])

    def test_before_is_the_answer_behind_the_standing_deed_ahead(self):
        # Taken back to where the answer was yes, a deed by which it is no gives a note again, and asks no lots for it.
        post = made_post([("put", "a", (0,), SLOW), ("wish", "q", "a", 1), ("beat",), ("beat",)])
        post.undo()
        post.undo()
        made = post.made()
        post.do(("beat",))
        self.assertEqual(post.notes(), [(3, "q", True, False)])
        self.assertEqual(post.made(), made + 2)

    def test_in_batches_each_deed_has_its_own(self):
        post = made_post([("put", "a", (0,), SLOW), ("wish", "q", "a", 1)])
        post.batch([("beat",), ("look", "a", ("in", (0,)), 1), ("beat",)])
        self.assertEqual(post.notes(), [(3, "q", True, False), (4, "q", False, True), (5, "q", True, False)])

    def test_a_refused_deed_gives_none(self):
        post = made_post([("put", "a", (0,), SLOW), ("wish", "q", "a", 1)])
        with self.assertRaises(Broken):
            post.batch([("beat",), ("drop", "none")])
        self.assertEqual(post.notes(), [])


class Twins(unittest.TestCase):
    def test_a_twin_has_all_of_it(self):
        post = made_post(DEEDS)
        for turn in range(4):
            post.undo()
        post.forth("a")
        twin = post.twin()
        self.assertEqual(twin, post)
        self.assertEqual(all_told(twin), all_told(post))
        self.assertEqual(twin.board(), post.board())

    def test_they_go_their_own_way(self):
        post = made_post(DEEDS)
        for turn in range(4):
            post.undo()
        twin = post.twin()
        ahead = all_told(post)
        twin.redo()
        twin.look("a", ("in", (0, 1, 2)))
        twin.go(beats=3)
        self.assertEqual(all_told(post), ahead)
        other = all_told(twin)
        post.undo()
        post.do(("drop", "b"))
        post.known("a")
        self.assertEqual(all_told(twin), other)
        self.assertNotEqual(post, twin)
        third = twin.twin()
        while third.deeds():
            third.undo()
        self.assertEqual(all_told(twin), other)


if __name__ == "__main__":
    unittest.main()
