"""A desk: lines of each kind and what they are answered."""

import random
import unittest

from roamlook.boards import Board
from roamlook.deeds import deed_text, read_deed
from roamlook.desk import Desk
from roamlook.errors import BadText
from roamlook.stories import known

from post_samples import PlainPost, chance_deed, post_shapes
from test_deeds import BENT

LINE = [(0, 1), (1, 2)]


def lot_text(lot):
    return ",".join(map(str, lot)) or "-"


class Lines(unittest.TestCase):
    def setUp(self):
        self.desk = Desk(board=Board(3, LINE))

    def said(self, *pairs):
        for line, answer in pairs:
            self.assertEqual(self.desk.say(line=line), answer, line)

    def test_deeds(self):
        self.said(
            ("put a 0 1,1,1", "done"), ("put b 0,1,2 0,0,0", "done"), ("look b in 0,1 1", "done 0"), ("beat", "done"),
            ("late a 0 near 2 1 2", "done 1"), ("wrong 0", "done"), ("right 0", "done"), ("wish q a 1", "done"),
            ("unwish q", "done"), ("pace a 0,0,0", "done"), ("drop b", "done"), ("look a parts 1|0,2 1", "done 2"),
        )
        self.assertEqual(len(self.desk.post().deeds()), 12)

    def test_undo_and_redo(self):
        self.said(
            ("undo", "no NothingLeft"), ("redo", "no NothingLeft"), ("put a 0 1,1,1", "done"), ("look a in 0,1 1", "done 0"),
            ("beat", "done"), ("undo", "beat"), ("undo", "look a in 0,1 1"), ("redo", "look a in 0,1 1"), ("undo", "look a in 0,1 1"),
            ("undo", "put a 0 1,1,1"), ("undo", "no NothingLeft"), ("redo", "put a 0 1,1,1"), ("put b 0 0,0,0", "done"),
            ("redo", "no NothingLeft"),
        )

    def test_questions_of_things(self):
        self.said(
            ("beat", "done"), ("put a 0 1,1,1", "done"), ("beat", "done"), ("beat", "done"), ("beat", "done"),
            ("known a", "0,1,2"), ("forth a", "0,1,2"), ("walk a", "0 0 0 0"), ("late a 3 in 2 1", "done 0"),
            ("known a", "2"), ("then a 1", "0"), ("then a 2", "1"), ("then a 3", "2"), ("then a 4", "2"), ("walk a", "0 1 2 2"),
            ("look a in 0 0", "done 1"),
        )

    def test_then_tells_what_is_known_not_what_is_forth(self):
        self.said(("put a 0,1 1,1,1", "done"), ("beat", "done"), ("look a in 0 1", "done 0"), ("then a 0", "0"))
        self.assertEqual(self.desk.post().forth("a")[0], (0, 1))

    def test_then_refuses(self):
        self.said(("beat", "done"), ("put a 0 1,1,1", "done"), ("beat", "done"))
        for beat in (-1, 0, 1, 2, 3, 999999999, -999999999):
            self.said((f"then b {beat}", "no NoThing"), (f"then abcdefghijkl {beat}", "no NoThing"))
        for beat in (-1, 0, 3, 12, 13, 999999999, -999999999):
            self.said((f"then a {beat}", "no BadBeat"))
        self.assertEqual(self.desk.post().made(), 0)
        self.said(("then a 1", "0"), ("then a 2", "0,1"))

    def test_wishes_and_notes(self):
        self.said(
            ("wishes", "none"), ("notes", "0"), ("put a 0 1,1,1", "done"), ("wishes", "none"), ("wish r a 2", "done"),
            ("wishes", "r:yes"), ("wish q a 1", "done"), ("wishes", "q:yes r:yes"), ("notes", "0"), ("beat", "done"),
            ("wishes", "q:no r:yes"), ("notes", "1"), ("beat", "done"), ("wishes", "q:no r:no"), ("notes", "2"), ("undo", "beat"),
            ("notes", "1"), ("unwish q", "done"), ("unwish r", "done"), ("wishes", "none"), ("notes", "1"),
        )

    def test_refusals(self):
        self.said(
            ("put abcdefghi 0 1,1,1", "no BadName"), ("put a 3 1,1,1", "no BadLot"), ("put a - 1,1,1", "no BadLot"),
            ("put a 0 1,1", "no BadPace"), ("drop a", "no NoThing"), ("pace a 1,1,1", "no NoThing"), ("known a", "no NoThing"),
            ("forth abcdefghijkl", "no NoThing"), ("walk a", "no NoThing"), ("put a 0 1,1,1", "done"), ("put a 0 1,1,1", "no Taken"),
            ("look a in 3 1", "no BadLook"), ("look a in 0 2", "no BadAnswer"), ("look a in 1 1", "no Unfit"),
            ("late a 1 in 0 1", "no BadBeat"), ("wrong 0", "no NoLook"), ("right 0", "no NoLook"), ("look a in 0 1", "done 0"),
            ("right 0", "no Right"), ("wrong 0", "done"), ("wrong 0", "no Wrong"), ("wish q a 0", "no BadWish"),
            ("wish q b 1", "no NoThing"), ("wish abcdefghi a 1", "no BadName"), ("unwish q", "no NoWish"),
        )
        for beat in range(12):
            self.said(("beat", "done"))
        self.said(("beat", "no Late"))
        for name in "bcdef":
            self.said((f"put {name} 0 0,0,0", "done"))
        self.said(("put g 0 0,0,0", "no Full"))

    def test_any_other_line(self):
        self.said(("put a 0 1,1,1", "done"))
        asked = {"undo", "redo", "known a", "forth a", "then a 0", "walk a", "wishes", "notes"}
        for line in BENT:
            if line not in asked:
                self.said((line, "no line"))
        for line in (
            "known", "known ", "known  a", " known a", "known a ", "known A", "known a b", "known 1", "known abcdefghijklm",
            "forth", "forth a 0", "forth -", "then a", "then a 00", "then a -0", "then a 01", "then a x", "then 0 a", "then a 0 0",
            "then a  0", "then a 1234567890", "then A 0", "then abcdefghijklm 0", "walk", "walk a a", "walk A", "wishes ", "wishes a",
            " wishes", "notes 0", "notes ", "undo ", "undo 1", " undo", "redo 1", "redo\n", "Undo", "page", "now", "things", "known a\n",
            "kept a", "made", "answer q", "story a", "batch", "go", "go 3", "twin", "no line", "none", "done",
        ):
            self.said((line, "no line"))
        self.assertEqual(len(self.desk.post().deeds()), 1)
        self.assertEqual(self.desk.post().made(), 0)

    def test_the_post_is_the_very_one_all_along(self):
        post = self.desk.post()
        self.said(("put a 0 1,1,1", "done"), ("undo", "put a 0 1,1,1"), ("redo", "put a 0 1,1,1"), ("drop b", "no NoThing"), ("x", "no line"))
        self.assertIs(self.desk.post(), post)
        self.assertEqual(post.things(), ["a"])
        post.go(beats=2)
        self.said(("known a", "0,1,2"))
        self.assertEqual(post.board(), Board(3, LINE))

    def test_a_question_asks_the_post_that_alone(self):
        post = self.desk.post()
        self.said(("put a 0 1,1,1", "done"), ("put b 0 1,1,1", "done"), ("beat", "done"), ("beat", "done"))
        for line, made in (
            ("walk a", 0), ("notes", 0), ("wishes", 0), ("known c", 0), ("then a 3", 0), ("then c 0", 0), ("forth a", 3), ("known a", 3),
            ("then a 0", 3), ("then b 0", 6), ("known b", 6), ("walk b", 6),
        ):
            self.desk.say(line)
            self.assertEqual(post.made(), made, line)
        self.said(("wish q a 1", "done"), ("undo", "wish q a 1"), ("redo", "wish q a 1"))
        self.assertEqual((post.kept("a"), post.kept("b")), (0, 0))
        self.said(("notes", "0"), ("wishes", "q:no"))
        self.assertEqual((post.kept("a"), post.kept("b"), post.made()), (3, 0, 9))

    def test_deeds_that_are_done_to_the_post_itself(self):
        self.desk.post().put("a", (0,))
        self.said(("known a", "0"), ("undo", "put a 0 1,1,1"), ("redo", "put a 0 1,1,1"))

    def test_two_desks(self):
        other = Desk(Board(3, LINE))
        self.said(("put a 0 1,1,1", "done"))
        self.assertEqual(other.say("known a"), "no NoThing")


def written(deed):
    """The text of a deed, or None where it is none that can be read."""
    try:
        text = deed_text(deed)
        return text if read_deed(text) == deed else None
    except (BadText, IndexError, TypeError):
        return None


class ChanceLines(unittest.TestCase):
    def test_rows_of_lines(self):
        chance = random.Random(150)
        said = 0
        for shape in post_shapes(2, 151):
            desk, plain = Desk(Board(*shape)), PlainPost(shape)
            for turn in range(60):
                deed = chance_deed(chance, plain)
                if written(deed) is not None:
                    said += 1
                    self.one_deed(desk, plain, deed)
                    self.questions(desk, plain)
        self.assertGreater(said, 400)

    def one_deed(self, desk, plain, deed):
        refusal = plain.refusal(deed)
        answer = desk.say(written(deed))
        if refusal is not None:
            self.assertEqual(answer, f"no {refusal[0].__name__}", deed)
        else:
            number = plain.do(deed)
            self.assertEqual(answer, "done" if number is None else f"done {number}", deed)

    def questions(self, desk, plain):
        state = plain.state()
        for name in state.things:
            lots = known(plain.board, state.story(name))
            self.assertEqual(desk.say(f"known {name}"), lot_text(lots[-1]))
            self.assertEqual(desk.say(f"forth {name}"), lot_text(lots[-1]))
            for at, lot in enumerate(lots):
                self.assertEqual(desk.say(f"then {name} {state.things[name]['begun'] + at}"), lot_text(lot))
        answers = [f"{question}:{'yes' if plain.answer(question) else 'no'}" for question in sorted(state.wishes)]
        self.assertEqual(desk.say("wishes"), " ".join(answers) or "none")
        self.assertEqual(desk.say("notes"), str(sum(map(len, plain.notes))))


if __name__ == "__main__":
    unittest.main()
