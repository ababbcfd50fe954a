"""Pages of posts, there and back, and pages that are bent."""

import random
import unittest

from roamlook.boards import Board
from roamlook.deeds import deed_text
from roamlook.errors import BadText
from roamlook.pages import page, read_page
from roamlook.posts import Post

from post_samples import PlainPost, chance_deed, post_shapes

BOARD = Board(3, [(0, 1), (1, 2)])
DEEDS = [
    ("put", "a", (0,), (1, 1, 1)), ("wish", "q", "a", 1), ("beat",), ("look", "a", ("in", (1,)), 1),
    ("put", "b", (0, 1, 2), (0, 0, 0)), ("late", "a", 0, ("near", 2, 1), 2), ("wrong", 0), ("pace", "a", (0, 0, 0)),
    ("right", 0), ("look", "b", ("parts", ((1,), (0, 2))), 1), ("unwish", "q"), ("drop", "b"),
]
TEXT = (
    "3 0>1 1>2\nput a 0 1,1,1\nwish q a 1\nbeat\nlook a in 1 1\nput b 0,1,2 0,0,0\nlate a 0 near 2 1 2\nwrong 0\n"
    "pace a 0,0,0\nright 0\nlook b parts 1|0,2 1\nunwish q\ndrop b\n"
)


def made_post(deeds):
    post = Post(BOARD)
    post.batch(list(deeds))
    return post


def chance_post(chance, shape, turns=60):
    """A post behind chance deeds, some of them taken back."""
    post, plain = Post(Board(*shape)), PlainPost(shape)
    for turn in range(turns):
        deed = chance_deed(chance, plain)
        if plain.refusal(deed) is None:
            post.do(deed)
            plain.do(deed)
    for turn in range(min(3, len(plain.standing))):
        post.undo()
    return post


class Pages(unittest.TestCase):
    def test_there_and_back(self):
        post = made_post(DEEDS)
        self.assertEqual(page(post), TEXT)
        self.assertEqual(page(post=post), TEXT)
        self.assertEqual(read_page(TEXT), post)
        self.assertEqual(read_page(text=TEXT).deeds(), DEEDS)

    def test_boards_alone(self):
        for board in (Board(1), Board(8), BOARD):
            self.assertEqual(page(Post(board)), str(board) + "\n")
            read = read_page(str(board) + "\n")
            self.assertEqual(read.board(), board)
            self.assertEqual(read.deeds(), [])

    def test_only_standing_deeds_are_written(self):
        post = made_post(DEEDS)
        post.undo()
        post.undo()
        self.assertEqual(page(post), TEXT[:TEXT.index("unwish")])
        read = read_page(page(post))
        self.assertEqual(read.undone(), [])
        self.assertEqual(read, post)

    def test_chance_posts_there_and_back(self):
        chance = random.Random(140)
        for shape in post_shapes(2, 141):
            post = chance_post(chance, shape)
            text = page(post)
            read = read_page(text)
            self.assertEqual(read, post)
            self.assertEqual(page(read), text)
            self.assertEqual(read.undone(), [])
            self.assertEqual((read.looks(), read.wishes(), read.notes()), (post.looks(), post.wishes(), post.notes()))

    def test_kept_lots_and_the_count_are_those_of_its_deeds(self):
        chance = random.Random(142)
        for shape in post_shapes(1, 143):
            post = chance_post(chance, shape)
            read, fresh = read_page(page(post)), Post(Board(*shape))
            for deed in post.deeds():
                fresh.do(deed)
            self.assertEqual(read.made(), fresh.made())
            self.assertEqual([read.kept(name) for name in read.things()], [fresh.kept(name) for name in fresh.things()])
        read = read_page(TEXT)
        self.assertEqual((read.made(), read.kept("a")), (made_post(DEEDS).made(), 2))

    def test_the_post_stays_as_it_was(self):
        post = made_post(DEEDS)
        post.undo()
        ahead = (post.deeds(), post.undone(), post.made(), post.kept("a"))
        page(post)
        self.assertEqual((post.deeds(), post.undone(), post.made(), post.kept("a")), ahead)

    def test_long_pages(self):
        post = made_post(DEEDS[:1])
        post.batch([("pace", "a", (number % 8, 0, number // 8 % 8)) for number in range(1000)])
        self.assertEqual(read_page(page(post)), post)


class Bent(unittest.TestCase):
    def refused(self, text, at):
        with self.assertRaises(BadText, msg=text) as refused:
            read_page(text)
        self.assertEqual(refused.exception.at, at, text)

    def test_lacking_line_feeds(self):
        self.refused("", 0)
        self.refused("3 0>1 1>2", 0)
        self.refused(TEXT[:-1], 12)
        for at, line in enumerate(TEXT.splitlines()):
            self.refused("\n".join(TEXT.splitlines()[:at + 1]), at)

    def test_line_feeds_too_many(self):
        self.refused("\n", 0)
        self.refused("\n" + TEXT, 0)
        self.refused(TEXT + "\n", 13)
        lines = TEXT.splitlines()
        for at in range(1, len(lines)):
            self.refused("\n".join(lines[:at] + [""] + lines[at:]) + "\n", at)

    def test_behind_the_last_line_feed(self):
        for rest in (" ", "beat", "x", "drop a"):
            self.refused(TEXT + rest, 13)
        self.refused(TEXT.replace("right 0", "right 1") + "beat", 9)

    def test_the_board(self):
        for text in ("", " ", "0", "9", "3 1>0 0>1", "3 0>1 1>2 0>2", "3 0>1 0>3", "3 0>1  1>2", "03", "3 0>0", "x", "3 ", " 3", "beat"):
            self.refused(text + "\n", 0)
            self.refused(text + "\nput a 0 1,1,1\n", 0)
            self.refused(text + "\nx\n", 0)

    def test_lines_that_are_not_so_written(self):
        lines = TEXT.splitlines()
        for at in range(1, len(lines)):
            for line in (lines[at] + " ", " " + lines[at], lines[at] + " 1", lines[at].upper(), "x", lines[at].replace(" ", "  ") + " "):
                self.refused("\n".join(lines[:at] + [line] + lines[at + 1:]) + "\n", at)

    def test_lines_that_are_refused(self):
        for deed in (
            ("put", "a", (0,), (1, 1, 1)), ("put", "c", (3,), (1, 1, 1)), ("put", "c", (), (1, 1, 1)), ("put", "c", (0,), (1,)),
            ("put", "abcdefghi", (0,), (1, 1, 1)), ("pace", "b", (1, 1, 1)), ("drop", "b"), ("look", "a", ("in", (3,)), 1),
            ("look", "a", ("in", (0,)), 2), ("look", "a", ("in", (0,)), 1), ("late", "a", 2, ("in", (1,)), 1),
            ("late", "a", -1, ("in", (1,)), 1), ("wrong", 2), ("wrong", -1), ("right", 0), ("wish", "q", "b", 1),
            ("wish", "q", "a", 9), ("wish", "abcdefghi", "a", 1), ("unwish", "q"),
        ):
            self.refused(TEXT + deed_text(deed) + "\n", 13)
            self.refused(TEXT + "pace a 1,1,1\n" + deed_text(deed) + "\nx\n", 14)
        self.refused(TEXT + "beat\n" * 12, 24)
        self.assertEqual(read_page(TEXT + "beat\n" * 11).now(), 12)

    def test_the_first_such_line(self):
        self.refused(TEXT + "drop none\nx\n", 13)
        self.refused(TEXT + "x\ndrop none\n", 13)
        self.refused(TEXT + "x\ndrop none", 13)
        self.refused(TEXT.replace("beat\n", "bet\n") + "x", 3)

    def test_lines_left_out_doubled_and_exchanged(self):
        """Each is read to just that post whose deeds stand there, or refused at the line that a post refuses first."""
        lines = TEXT.splitlines()
        bent = []
        for at in range(1, len(lines)):
            bent += [lines[:at] + lines[at + 1:], lines[:at + 1] + lines[at:]]
            for other in range(at + 1, len(lines)):
                bent.append(lines[:at] + [lines[other]] + lines[at + 1:other] + [lines[at]] + lines[other + 1:])
        by_text = dict(zip(lines[1:], DEEDS))
        found = {True: 0, False: 0}
        for rows in bent:
            plain = PlainPost((3, [(0, 1), (1, 2)]))
            at = 1
            while at < len(rows) and plain.refusal(by_text[rows[at]]) is None:
                plain.do(by_text[rows[at]])
                at += 1
            text = "\n".join(rows) + "\n"
            found[at == len(rows)] += 1
            if at < len(rows):
                self.refused(text, at)
            else:
                self.assertEqual(read_page(text).deeds(), plain.standing)
        self.assertGreater(min(found.values()), 5)


if __name__ == "__main__":
    unittest.main()
