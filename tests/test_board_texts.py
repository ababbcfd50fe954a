"""The text of a board, and texts that are read or refused."""

import re
import unittest

from roamlook.boards import Board, read_board
from roamlook.errors import BadText

from samples import all_pairs, few_shapes, sample_shapes

SIGNS = " 0123789>-+,x\n"


def first_wrong(text):
    """The number of the first word that is wrong, None where all are right."""
    words = re.split(" ", text)
    if not re.fullmatch("[1-8]", words[0]):
        return 0
    places = [str(place) for place in range(int(words[0]))]
    last = ""
    for at in range(1, len(words)):
        sides = words[at].split(">")
        if len(sides) != 2 or sides[0] not in places or sides[1] not in places or sides[0] == sides[1]:
            return at
        # Each place is one figure, so texts are ordered as the ways are.
        if words[at] <= last:
            return at
        last = words[at]
    return None


def broken_texts(text):
    """Texts with a sign put in, left out or changed, and words exchanged, doubled or left out."""
    texts = [text[:at] + text[at + 1:] for at in range(len(text))]
    for sign in SIGNS:
        texts.extend(text[:at] + sign + text[at:] for at in range(len(text) + 1))
        texts.extend(text[:at] + sign + text[at + 1:] for at in range(len(text)))
    words = text.split(" ")
    for at in range(len(words)):
        texts.append(" ".join(words[:at] + words[at + 1:]))
        texts.append(" ".join(words[:at] + [words[at]] + words[at:]))
        for other in range(at):
            changed = list(words)
            changed[at], changed[other] = words[other], words[at]
            texts.append(" ".join(changed))
    return texts


class Texts(unittest.TestCase):
    def judge(self, text):
        at = first_wrong(text)
        if at is None:
            self.assertEqual(str(read_board(text)), text)
            return
        with self.assertRaises(BadText, msg=repr(text)) as refused:
            read_board(text)
        self.assertEqual(refused.exception.at, at, repr(text))

    def test_text_of_a_board(self):
        self.assertEqual(str(Board(3, [(2, 0), (0, 1)])), "3 0>1 2>0")
        self.assertEqual(str(Board(1)), "1")
        for many, ways in sample_shapes():
            told = [str(many)] + [f"{one}>{other}" for one, other in sorted(ways)]
            self.assertEqual(str(Board(many, ways)), " ".join(told))

    def test_read_again(self):
        for many, ways in sample_shapes():
            board = Board(many, ways)
            read = read_board(str(board))
            self.assertIsInstance(read, Board)
            self.assertEqual(read, board)
        self.assertEqual(read_board(text="2 1>0").ways(), [(1, 0)])

    def test_broken_texts(self):
        for many, ways in few_shapes():
            for text in broken_texts(str(Board(many, sorted(ways)[:12]))):
                self.judge(text)

    def test_refused_words(self):
        for text, at in (
            ("", 0), (" ", 0), ("0", 0), ("9", 0), ("10", 0), ("03", 0), ("+3", 0), ("-3", 0), ("3\n", 0),
            ("x", 0), (" 3", 0), ("0>1", 0), ("3 ", 1), ("3  0>1", 1), ("3 0>1 ", 2), ("3 0>1  1>2", 2),
            ("3 0>3", 1), ("3 3>0", 1), ("3 0>0", 1), ("3 00>1", 1), ("3 0>01", 1), ("3 0>-1", 1), ("3 -0>1", 1),
            ("3 0>1>2", 1), ("3 0", 1), ("3 >", 1), ("3 0>", 1), ("3 >1", 1), ("3 0 > 1", 1), ("3 0>1\n", 1),
            ("3 0>1 0>1", 2), ("3 1>0 0>1", 2), ("3 0>2 0>1", 2), ("3 0>1 1>2 1>0 9>9", 3), ("3 0>1 x 0>1", 2),
            ("8 0>1 1>2 7>8", 3), ("2 0>1 1>0 1>0", 3), ("1 0>1", 1), ("3,0>1", 0), ("3\n0>1", 0),
        ):
            with self.assertRaises(BadText, msg=repr(text)) as refused:
                read_board(text)
            self.assertEqual(refused.exception.at, at, repr(text))
            self.assertEqual(first_wrong(text), at)

    def test_long_texts(self):
        self.judge(str(Board(8, all_pairs(8))))
        self.judge("8 " * 200)
        self.judge("9" * 400)
        self.judge(" ".join(["8"] + ["0>1"] * 90))


if __name__ == "__main__":
    unittest.main()
