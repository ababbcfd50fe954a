"""How deeds are written and read."""

import random
import unittest

from roamlook.deeds import deed_text, read_deed
from roamlook.errors import BadText

from look_samples import every_look
from post_samples import SIZES, no_deeds
from samples import all_lots

WRITTEN = {
    "put a 0 1": ("put", "a", (0,), (1,)),
    "put bird 0,2,7 1,0,7": ("put", "bird", (0, 2, 7), (1, 0, 7)),
    "put abcdefghijkl - 7,6,5,4,3,2,1,0": ("put", "abcdefghijkl", (), (7, 6, 5, 4, 3, 2, 1, 0)),
    "pace a 0": ("pace", "a", (0,)),
    "pace a 3,3": ("pace", "a", (3, 3)),
    "drop fox": ("drop", "fox"),
    "beat": ("beat",),
    "look a in 0,1 1": ("look", "a", ("in", (0, 1)), 1),
    "look a in - 0": ("look", "a", ("in", ()), 0),
    "look in in 0 -1": ("look", "in", ("in", (0,)), -1),
    "look near near 7 7 8": ("look", "near", ("near", 7, 7), 8),
    "look a parts 1|0,2 1": ("look", "a", ("parts", ((1,), (0, 2))), 1),
    "look a parts 0 999999999": ("look", "a", ("parts", ((0,),)), 999999999),
    "late a 0 in 3 1": ("late", "a", 0, ("in", (3,)), 1),
    "late a -999999999 near 0 0 -999999999": ("late", "a", -999999999, ("near", 0, 0), -999999999),
    "late a 12 parts 0|1 0": ("late", "a", 12, ("parts", ((0,), (1,))), 0),
    "wrong 0": ("wrong", 0),
    "wrong 23": ("wrong", 23),
    "right -5": ("right", -5),
    "wish q a 1": ("wish", "q", "a", 1),
    "wish wish beat 999999999": ("wish", "wish", "beat", 999999999),
    "unwish q": ("unwish", "q"),
}
BENT = [
    "", " ", "beat ", " beat", "beat 1", "beats", "Beat", "beat\n", "\nbeat", "be at", "drop", "drop ", "drop  a", " drop a",
    "drop a ", "drop a b", "drop A", "drop a1", "drop abcdefghijklm", "drop -", "drop 1", "drop a\n", "Drop a", "drop a,b",
    "put a 0", "put a 0 1 1", "put a  0 1", "put  0 1", "put a 0  1", "put a 8 1", "put a 1,0 1", "put a 0,0 1", "put a 0, 1",
    "put a ,0 1", "put a 00 1", "put a -1 1", "put a -- 1", "put a 0 8", "put a 0 -", "put a 0 1,", "put a 0 ,1",
    "put a 0 1,1,1,1,1,1,1,1,1", "put a 0 01", "put a 0 -1", "put a 0 10", "put a (0,) 1", "put A 0 1",
    "pace a", "pace a -", "pace a 1 1", "pace a 9", "pace a 1.1", "pace 1", "pace a 1,1,1,1,1,1,1,1,1",
    "look a in 0", "look a in 0 1 1", "look a in 1,0 1", "look a in 0 01", "look a in 0 +1", "look a in 0 -0", "look a in 0 1 ",
    "look a in  0 1", "look a  in 0 1", "look a in 0  1", "look  in 0 1", "look in 0 1", "look a at 0 1", "look a near 0 1",
    "look a near 0 8 1", "look a near 8 0 1", "look a near 0 1 1 1", "look a near 0 0", "look a near 00 1 1", "look a parts 0|0 1",
    "look a parts 1 1", "look a parts 0| 1", "look a parts |0 1", "look a parts - 1", "look a parts 0|-|1 1", "look a parts 0|2 1",
    "look a 0 in 0 1", "look a in 0 1000000000", "look a in 0 x", "look a in 0 1.0", "look a", "look",
    "late a in 0 1", "late a 0 in 0", "late a 00 in 0 1", "late a -0 in 0 1", "late a 01 in 0 1", "late a 1000000000 in 0 1",
    "late a 0 0 in 0 1", "late a 0 near 0 1", "late a  in 0 1", "late a 0 in 0 1 1", "late a -1000000000 in 0 1",
    "late a +1 in 0 1", "late a 1_0 in 0 1", "late a - in 0 1", "late a --1 in 0 1",
    "wrong", "wrong ", "wrong a", "wrong 00", "wrong 01", "wrong -0", "wrong 0000000001", "wrong 1234567890", "wrong -1234567890",
    "wrong 1 1", "wrong 1-", "wrong - 1", "right", "right 007", "right 1 ", "right 1,1", "right x", "right 0x1", "right 1e1",
    "wish q a", "wish q a 1 1", "wish q 1 a", "wish q  1", "wish  q a 1", "wish Q a 1", "wish q a 01", "wish q a -0", "wish q A 1",
    "wish abcdefghijklm a 1", "wish q abcdefghijklm 1", "wish q a", "unwish", "unwish ", "unwish q a", "unwish 1", "unwish Q",
    "undo", "redo", "known a", "forth a", "then a 0", "walk a", "wishes", "notes", "done", "no line", "put", "pace", "late",
]


class Texts(unittest.TestCase):
    def refused(self, text):
        with self.assertRaises(BadText, msg=repr(text)) as refused:
            read_deed(text)
        self.assertEqual(refused.exception.at, 0)

    def test_there_and_back(self):
        self.assertEqual({deed[0] for deed in WRITTEN.values()}, set(SIZES))
        for text, deed in WRITTEN.items():
            self.assertEqual(deed_text(deed), text)
            self.assertEqual(read_deed(text), deed)
            self.assertEqual(read_deed(text=text), deed)
            self.assertEqual(deed_text(deed=deed), text)

    def test_every_look_there_and_back(self):
        chance = random.Random(121)
        for look in every_look()[::3]:
            answer = chance.choice((-3, 0, 1, 7, 123456789))
            for deed in (("look", "a", look, answer), ("late", "b", chance.randint(0, 12), look, answer)):
                self.assertEqual(read_deed(deed_text(deed)), deed)

    def test_every_lot_and_many_paces_there_and_back(self):
        chance = random.Random(122)
        for lot in all_lots(8):
            pace = tuple(chance.randint(0, 7) for place in range(chance.randint(1, 8)))
            deed = ("put", "a", lot, pace)
            self.assertEqual(read_deed(deed_text(deed)), deed)

    def test_numbers(self):
        for number in (0, 1, 9, 10, 99, 100, 999999999, -1, -10, -999999999, 100000000):
            self.assertEqual(read_deed(f"wrong {number}"), ("wrong", number))
        for number in (1000000000, -1000000000, 999999999999):
            self.refused(f"wrong {number}")

    def test_names(self):
        for length in range(1, 13):
            self.assertEqual(read_deed("drop " + "z" * length), ("drop", "z" * length))
        self.refused("drop " + "z" * 13)
        for sign in map(chr, range(32, 127)):
            if not "a" <= sign <= "z":
                self.refused(f"drop a{sign}")
                self.refused(f"drop {sign}")

    def test_bent_lines(self):
        for text in BENT:
            self.refused(text)

    def test_each_bent_sign(self):
        """Any sign that is put in, left out or exchanged gives no deed, or one that is so written."""
        for text in WRITTEN:
            near = [text[:at] + text[at + 1:] for at in range(len(text))]
            for sign in " ,|-01a\n":
                near += [text[:at] + sign + text[at:] for at in range(len(text) + 1)]
                near += [text[:at] + sign + text[at + 1:] for at in range(len(text))]
            for other in near:
                try:
                    deed = read_deed(other)
                except BadText as refused:
                    self.assertEqual(refused.at, 0)
                else:
                    self.assertEqual(deed_text(deed), other)

    def test_words_too_many_and_too_few(self):
        for text in WRITTEN:
            words = text.split(" ")
            self.refused(text + " 1")
            self.refused(text + " a")
            if len(words) > 1:
                self.refused(" ".join(words[:-1]))
                self.refused("  ".join(words))

    def test_no_words_of_deeds(self):
        for deed in no_deeds():
            if isinstance(deed, tuple) and deed and isinstance(deed[0], str):
                words = [word for word in deed if isinstance(word, str)]
                if len(words) == len(deed):
                    self.refused(" ".join(words))


if __name__ == "__main__":
    unittest.main()
