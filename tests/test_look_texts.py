"""The text of a look, and texts that are read or refused."""

import re
import unittest

from roamlook.errors import BadText
from roamlook.looks import look_text, read_look
from roamlook.texts import figures_text, lot_text, read_figures, read_lot

from look_samples import every_look
from samples import all_lots

SIGNS = " 0123789|,-+xin\n"
LOT = "([0-7](,[0-7])*)"


def is_rising(text):
    places = text.split(",")
    return all(one < other for one, other in zip(places, places[1:]))


def is_written(text):
    """Whether a text is that of a look such as some board has."""
    if text == "in -" or re.fullmatch("near [0-7] [0-7]", text):
        return True
    if re.fullmatch(f"in {LOT}", text):
        return is_rising(text[3:])
    if not re.fullmatch(rf"parts {LOT}(\|{LOT})*", text):
        return False
    lots = text[6:].split("|")
    places = ",".join(lots).split(",")
    return all(is_rising(lot) for lot in lots) and sorted(places) == list("01234567")[:len(places)]


def broken_texts(text):
    """Texts with a sign put in, left out or changed, and words exchanged, doubled or left out."""
    texts = [text[:at] + text[at + 1:] for at in range(len(text))]
    texts.extend(text[:at] + text[at + 1] + text[at] + text[at + 2:] for at in range(len(text) - 1))
    for sign in SIGNS:
        texts.extend(text[:at] + sign + text[at:] for at in range(len(text) + 1))
        texts.extend(text[:at] + sign + text[at + 1:] for at in range(len(text)))
    for gap in " |,":
        words = text.split(gap)
        for at in range(len(words)):
            texts.append(gap.join(words[:at] + words[at + 1:]))
            texts.append(gap.join(words[:at] + [words[at]] + words[at:]))
            for other in range(at):
                changed = list(words)
                changed[at], changed[other] = words[other], words[at]
                texts.append(gap.join(changed))
    return texts


class Texts(unittest.TestCase):
    def judge(self, text):
        if is_written(text):
            self.assertEqual(look_text(read_look(text)), text)
            return
        with self.assertRaises(BadText, msg=repr(text)) as refused:
            read_look(text)
        self.assertEqual(refused.exception.at, 0)

    def test_texts_of_looks(self):
        for look, text in (
            (("in", ()), "in -"), (("in", (0,)), "in 0"), (("in", (1, 4, 7)), "in 1,4,7"),
            (("parts", ((0,),)), "parts 0"), (("parts", ((1,), (0, 2))), "parts 1|0,2"),
            (("parts", ((0, 1, 2, 3, 4, 5, 6, 7),)), "parts 0,1,2,3,4,5,6,7"),
            (("near", 0, 0), "near 0 0"), (("near", 7, 6), "near 7 6"),
        ):
            self.assertEqual(look_text(look), text)
            self.assertEqual(read_look(text), look)
        self.assertEqual(look_text(look=("near", 1, 2)), "near 1 2")
        self.assertEqual(read_look(text="near 1 2"), ("near", 1, 2))

    def test_there_and_back(self):
        for look in every_look():
            text = look_text(look)
            self.assertTrue(is_written(text), text)
            read = read_look(text)
            self.assertEqual(read, look)
            self.assertIs(type(read), tuple)
            self.assertTrue(all(type(lot) is tuple for lot in read[1]) if read[0] == "parts" else True)

    def test_broken_texts(self):
        for look in every_look()[::37] + [("parts", ((0, 1), (2,))), ("in", ()), ("parts", ((3, 4), (0,), (1, 2)))]:
            for text in broken_texts(look_text(look)):
                self.judge(text)

    def test_refused_texts(self):
        for text in (
            "", " ", "\n", "in", "in ", " in 0", "in  0", "in 0 ", "in 0\n", "in 8", "in 9", "in 00", "in 01",
            "in -1", "in +1", "in -0", "in 0,0", "in 1,0", "in 0,", "in ,0", "in ,", "in 0,,1", "in 0, 1",
            "in 0 1", "in 0|1", "in --", "in -,0", "in 0,-", "In 0", "IN 0", "in\n0", "in0", "at 0", "0", "-",
            "parts", "parts ", "parts -", "parts -|0", "parts 0|-", "parts 0|", "parts |0", "parts |",
            "parts 0||1", "parts 1", "parts 0|2", "parts 0,2", "parts 0|0", "parts 0,1|1", "parts 1,0",
            "parts 0|1|8", "parts 0 | 1", "parts 0 1", "parts 0,1,2,3,4,5,6,7,8", "part 0", "parts 0|1 ",
            "near", "near 0", "near 0 ", "near  0 0", "near 8 0", "near 0 8", "near 0 0 0", "near 0,0", "near -1 0",
            "near 0 -1", "near 00 0", "near 0 07", "near 0 0\n", "near - 0", "near 0 -", "near +0 0", "nears 0 0",
            "near 0 0 ", "near x y", "none", "near" * 100, "in 0," * 80, "parts " + "0|" * 197,
        ):
            self.assertFalse(is_written(text), text)
            self.judge(text)


class Parts(unittest.TestCase):
    def test_lots(self):
        for lot in all_lots(8):
            self.assertEqual(read_lot(lot_text(lot)), lot)
        for text in ("", "8", "0,", ",", "1,0", "0,0", "00", "-,0", "0 1", "--", "0\n"):
            self.assertIsNone(read_lot(text), text)

    def test_figures(self):
        self.assertEqual(figures_text((7, 0, 0)), "7,0,0")
        self.assertEqual(read_figures("7,0,0"), (7, 0, 0))
        for text in ("", "8", "-", "1,", "01"):
            self.assertIsNone(read_figures(text), text)


if __name__ == "__main__":
    unittest.main()
