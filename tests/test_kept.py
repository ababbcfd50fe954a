"""Which lots forth a post keeps, makes and counts, step by step by the words of point 20."""

import unittest

from roamlook.boards import Board
from roamlook.errors import (
    BadAnswer, BadBeat, BadDeed, BadLook, Broken, Late, NoLook, NothingLeft, NoThing, NoWish, Right, Taken, Unfit, Wrong,
)
from roamlook.posts import Post

LINE = [(0, 1), (1, 2)]
ANY = ("in", (0, 1, 2))


class Kept(unittest.TestCase):
    def setUp(self):
        self.post = Post(Board(3, LINE))
        self.post.put("a", (0,))
        self.post.put("b", (0, 1, 2))

    def told(self, a, b, made):
        self.assertEqual((self.post.kept("a"), self.post.kept("b"), self.post.made()), (a, b, made))

    def test_none_are_made_where_nothing_is_asked(self):
        self.told(0, 0, 0)
        self.post.go(beats=4)
        self.post.do(("pace", "a", (0, 0, 0)))
        self.post.put("c", (0,))
        self.post.do(("drop", "c"))
        self.told(0, 0, 0)

    def test_what_asks_and_what_does_not(self):
        post = self.post
        post.go(beats=3)
        for ask in (post.begun, post.story, post.walk, post.kept):
            ask("a")
        for ask in (post.board, post.now, post.things, post.made, post.looks, post.wishes, post.notes, post.deeds, post.undone):
            ask()
        post.twin()
        len(post), repr(post), post == post.twin()
        self.told(0, 0, 0)
        post.forth("a")
        self.told(4, 0, 4)
        post.known("b")
        self.told(4, 4, 8)
        post.forth("a")
        post.known("a")
        self.told(4, 4, 8)
        post.go(beats=2)
        self.told(4, 4, 8)
        post.known("a")
        self.told(6, 4, 10)

    def test_a_look_lets_go_from_its_beat_on_and_asks_up_to_now(self):
        post = self.post
        post.go(beats=3)
        post.look("a", ANY)
        self.told(4, 0, 4)
        post.look("a", ANY)
        self.told(4, 0, 5)
        post.do(("beat",))
        post.look("a", ANY)
        self.told(5, 0, 6)
        post.late("a", 1, ANY)
        self.told(5, 0, 10)
        post.late("a", 0, ANY)
        self.told(5, 0, 15)
        post.late("b", 4, ANY)
        self.told(5, 5, 20)

    def test_wrong_lets_go_and_does_not_ask(self):
        post = self.post
        post.go(beats=2)
        post.look("a", ANY)
        post.go(beats=2)
        post.forth("a")
        self.told(5, 0, 5)
        post.do(("wrong", 0))
        self.told(2, 0, 5)
        post.forth("a")
        self.told(5, 0, 8)
        post.do(("right", 0))
        self.told(5, 0, 11)

    def test_wrong_lets_go_of_no_more_than_there_is(self):
        post = self.post
        post.go(beats=4)
        post.late("a", 3, ANY)
        post.late("a", 1, ANY)
        self.told(5, 0, 9)
        post.do(("wrong", 1))
        self.told(1, 0, 9)
        post.do(("wrong", 0))
        self.told(1, 0, 9)
        post.do(("right", 0))
        self.told(5, 0, 13)

    def test_drop_and_put_in_again(self):
        post = self.post
        post.go(beats=2)
        post.forth("a")
        post.forth("b")
        self.told(3, 3, 6)
        post.do(("drop", "a"))
        self.assertEqual((post.kept("b"), post.made()), (3, 6))
        post.put("a", (0,))
        self.told(0, 3, 6)
        post.forth("a")
        self.told(1, 3, 7)

    def test_beats_and_paces_let_go_of_none(self):
        post = self.post
        post.forth("a")
        post.do(("pace", "a", (2, 2, 2)))
        post.go(beats=2)
        self.told(1, 0, 1)
        post.do(("pace", "a", (0, 0, 0)))
        post.forth("a")
        self.told(3, 0, 3)

    def test_wishes_ask_behind_each_deed(self):
        post = self.post
        post.wish("q", "a")
        self.told(1, 0, 1)
        post.do(("beat",))
        self.told(2, 0, 2)
        post.wish("r", "a", most=2)
        self.told(2, 0, 2)
        post.go(beats=3)
        self.told(5, 0, 5)
        post.look("b", ANY)
        self.told(5, 5, 10)
        post.late("a", 2, ANY)
        self.told(5, 5, 13)
        post.do(("wrong", 1))
        self.told(5, 5, 16)
        post.do(("unwish", "q"))
        post.do(("beat",))
        self.told(6, 5, 17)
        post.do(("unwish", "r"))
        post.do(("beat",))
        self.told(6, 5, 17)

    def test_things_that_begin_later(self):
        post = self.post
        post.go(beats=4)
        post.put("c", (0,))
        post.wish("q", "c")
        self.assertEqual((post.kept("c"), post.made()), (1, 1))
        post.go(beats=2)
        post.late("c", 5, ANY)
        self.assertEqual((post.kept("c"), post.made()), (3, 5))

    def test_taking_back_and_doing_again_let_go_of_all(self):
        post = self.post
        post.wish("q", "a")
        post.go(beats=2)
        post.look("b", ANY)
        self.told(3, 3, 6)
        post.undo()
        self.told(0, 0, 6)
        self.assertEqual(post.forth("a"), [(0,), (0, 1), (0, 1, 2)])
        self.told(3, 0, 9)
        post.redo()
        self.told(0, 0, 9)
        # The wish asks behind the next deed again.
        post.do(("pace", "b", (0, 0, 0)))
        self.told(3, 0, 12)
        post.undo()
        self.assertIs(post.answer("q"), False)
        self.told(3, 0, 15)

    def test_nothing_left_lets_go_of_none(self):
        post = self.post
        post.forth("a")
        with self.assertRaises(NothingLeft):
            post.redo()
        self.told(1, 0, 1)
        empty = Post(Board(3, LINE))
        with self.assertRaises(NothingLeft):
            empty.undo()

    def test_a_refused_deed_leaves_both_as_ahead(self):
        post = self.post
        post.wish("q", "a")
        post.go(beats=12)
        post.late("a", 3, ("in", (2,)))
        post.do(("wrong", 0))
        post.late("a", 3, ("in", (0, 1)))
        kept = (post.kept("a"), post.kept("b"), post.made())
        for deed, kind in (
            (("right", 0), Unfit), (("late", "a", 0, ("in", (2,)), 1), Unfit),
            (("look", "a", ("in", (3,)), 1), BadLook), (("look", "a", ANY, 0), BadAnswer), (("beat",), Late),
            (("late", "a", 13, ANY, 1), BadBeat), (("look", "none", ANY, 1), NoThing), (("right", 1), Right),
            (("wrong", 0), Wrong), (("wrong", 9), NoLook), (("put", "a", (0,), (1, 1, 1)), Taken), (("unwish", "r"), NoWish),
            (["beat"], BadDeed), (("drop", "none"), NoThing),
        ):
            with self.assertRaises(kind):
                post.do(deed)
            self.assertEqual((post.kept("a"), post.kept("b"), post.made()), kept, deed)

    def test_an_unfit_look_while_fewer_are_kept(self):
        post = self.post
        post.go(beats=4)
        post.forth("b")
        self.told(0, 5, 5)
        with self.assertRaises(Unfit):
            post.late("a", 1, ("in", (2,)))
        self.told(0, 5, 5)
        post.do(("beat",))
        with self.assertRaises(Unfit):
            post.late("a", 1, ("in", (2,)))
        self.told(0, 5, 5)

    def test_batches(self):
        post = self.post
        post.wish("q", "a")
        deeds = [("beat",), ("late", "a", 0, ANY, 1), ("beat",), ("look", "b", ANY, 1)]
        with self.assertRaises(Broken):
            post.batch(deeds + [("beat",), ("drop", "none")])
        self.told(1, 0, 1)
        post.batch(deeds)
        # One by the wish, one by the first beat, two by the late look, one by the next beat, three by the look.
        self.told(3, 3, 8)
        with self.assertRaises(Broken):
            post.go(beats=11)
        self.told(3, 3, 8)
        post.go(beats=10)
        self.told(13, 3, 18)
        post.batch([])
        post.go(beats=0)
        self.told(13, 3, 18)

    def test_twins_count_for_themselves(self):
        post = self.post
        post.go(beats=2)
        post.forth("a")
        twin = post.twin()
        self.assertEqual((twin.kept("a"), twin.kept("b"), twin.made()), (3, 0, 3))
        twin.forth("b")
        self.told(3, 0, 3)
        post.late("a", 0, ANY)
        self.assertEqual((twin.kept("a"), twin.kept("b"), twin.made()), (3, 3, 6))
        self.told(3, 0, 6)


if __name__ == "__main__":
    unittest.main()
