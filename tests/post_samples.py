"""Deeds for the tests, and a plain reckoning of posts that plays all standing deeds anew at each step."""

import random

from roamlook.boards import Board
from roamlook.errors import (
    BadAnswer, BadBeat, BadDeed, BadLook, BadLot, BadName, BadPace, BadWish, Full, Late, NoLook, NoThing, NoWish, Right,
    Taken, Unfit, Wrong,
)
from roamlook.stories import forth

from look_samples import no_looks, plain_answer
from samples import no_lots, no_paces
from story_samples import chance_look, chance_lot, chance_pace, chance_ways

SIZES = {
    "put": 3, "pace": 2, "drop": 1, "beat": 0, "look": 3, "late": 4, "wrong": 1, "right": 1, "wish": 3, "unwish": 1,
}
SMALL = "abcdefghijklmnopqrstuvwxyz"
NAMES = ("a", "b", "bird", "cc", "fox", "zebra", "abcdefgh", "x")
BAD_NAMES = ("", "abcdefghi", "abcdefghijkl", "A", "bIrd", "a1", "1", "a b", " a", "a ", "a_b", "-")


def is_plain_name(name):
    return 1 <= len(name) <= 8 and all(letter in SMALL for letter in name)


class PlainState:
    """What standing deeds make, by the words of point 19."""

    def __init__(self, shape, deeds):
        self.shape, self.beat, self.given = shape, 0, 0
        self.things, self.looks, self.wishes = {}, {}, {}
        for deed in deeds:
            self.play(deed)

    def play(self, deed):
        word, parts = deed[0], deed[1:]
        if word == "put":
            # The paces by the beats of the post from which the steps go.
            self.things[parts[0]] = {"begun": self.beat, "lot": parts[1], "pace": parts[2], "paces": []}
        elif word == "pace":
            self.things[parts[0]]["pace"] = parts[1]
        elif word == "drop":
            del self.things[parts[0]]
            self.looks = {number: row for number, row in self.looks.items() if row[0] != parts[0]}
            self.wishes = {name: wish for name, wish in self.wishes.items() if wish[0] != parts[0]}
        elif word == "beat":
            self.beat += 1
            for thing in self.things.values():
                thing["paces"].append(thing["pace"])
        elif word in ("look", "late"):
            beat = self.beat if word == "look" else parts[1]
            self.looks[self.given] = [parts[0], beat, parts[-2], parts[-1], True]
            self.given += 1
        elif word in ("wrong", "right"):
            self.looks[parts[0]][4] = word == "right"
        elif word == "wish":
            self.wishes[parts[0]] = parts[1:]
        else:
            del self.wishes[parts[0]]

    def story(self, name):
        thing = self.things[name]
        seen = tuple(
            (beat - thing["begun"], look, answer)
            for number, (owner, beat, look, answer, counts) in sorted(self.looks.items()) if owner == name and counts
        )
        return thing["lot"], tuple(thing["paces"]), seen

    def needed(self, name):
        """How many lots there are up to now."""
        return self.beat - self.things[name]["begun"] + 1


class PlainPost:
    """A post by the words of points 19 to 21."""

    def __init__(self, shape):
        self.shape, self.board = shape, Board(*shape)
        self.standing, self.undone = [], []
        self.kept, self.made = {}, 0
        # Behind each standing deed: the answers of the wishes, and the notes of that deed.
        self.answers, self.notes = [{}], []

    def state(self, more=()):
        return PlainState(self.shape, self.standing + list(more))

    def lots(self, state, name):
        return forth(self.board, state.story(name))

    def refusal(self, deed):
        """The class and the field of what is refused first, or None."""
        if type(deed) is not tuple or not deed or type(deed[0]) is not str or deed[0] not in SIZES:
            return BadDeed, None
        if len(deed) - 1 != SIZES[deed[0]]:
            return BadDeed, None
        for kind, field, due in self.due(self.state(), deed[0], deed[1:]):
            if due():
                return kind, field
        if deed[0] in ("look", "late", "right"):
            return self.unfit(deed)
        return None

    def due(self, state, word, parts):
        """All that a deed refuses but Unfit, in order, each to be asked for only behind those ahead of it."""
        many, ways = self.shape
        no_thing = lambda name: (NoThing, name, lambda: name not in state.things)
        bad_pace = lambda pace: (BadPace, None, lambda: pace in no_paces(many))
        if word == "put":
            name, lot, pace = parts
            return [
                (BadName, name, lambda: not is_plain_name(name)), (Taken, name, lambda: name in state.things),
                (Full, None, lambda: len(state.things) == 6), (BadLot, None, lambda: lot in [()] + no_lots(many)),
                bad_pace(pace),
            ]
        if word == "pace":
            return [no_thing(parts[0]), bad_pace(parts[1])]
        if word == "drop":
            return [no_thing(parts[0])]
        if word == "beat":
            return [(Late, None, lambda: state.beat == 12)]
        if word in ("look", "late"):
            return [no_thing(parts[0])] + self.due_seen(state, word, parts)
        if word in ("wrong", "right"):
            number = parts[0]
            kind = Wrong if word == "wrong" else Right
            counts = word == "right"
            return [
                (NoLook, number, lambda: number not in state.looks),
                (kind, number, lambda: state.looks[number][4] == counts),
            ]
        if word == "wish":
            question, name, most = parts
            return [
                (BadName, question, lambda: not is_plain_name(question)),
                (Taken, question, lambda: question in state.wishes), (Full, None, lambda: len(state.wishes) == 6),
                no_thing(name), (BadWish, most, lambda: not 1 <= most <= 8),
            ]
        return [(NoWish, parts[0], lambda: parts[0] not in state.wishes)]

    def due_seen(self, state, word, parts):
        many, ways = self.shape
        name, look, answer = parts[0], parts[-2], parts[-1]
        due = []
        if word == "late":
            due.append((BadBeat, parts[1], lambda: not state.things[name]["begun"] <= parts[1] <= state.beat))
        due.append((BadLook, None, lambda: look in no_looks(many)))
        due.append((BadAnswer, None, lambda: answer not in [plain_answer(ways, look, place) for place in range(many)]))
        due.append((Full, None, lambda: state.given == 24))
        return due

    def unfit(self, deed):
        behind = self.state([deed])
        name = self.state().looks[deed[1]][0] if deed[0] == "right" else deed[1]
        for at, lot in enumerate(self.lots(behind, name)):
            if not lot:
                return Unfit, behind.things[name]["begun"] + at
        return None

    def do(self, deed):
        """What a deed that isn't refused tells."""
        ahead = self.state()
        self.standing.append(deed)
        self.undone = []
        state = self.state()
        if deed[0] in ("look", "late", "wrong", "right"):
            number = ahead.given if deed[0] in ("look", "late") else deed[1]
            name, beat = state.looks[number][:2]
            self.kept[name] = min(self.kept.get(name, 0), beat - state.things[name]["begun"])
            if deed[0] != "wrong":
                self.ask(name)
        if deed[0] == "drop":
            self.kept.pop(deed[1], None)
        answers, notes = {}, []
        for question in sorted(state.wishes):
            answers[question] = self.answer(question)
            if self.answers[-1].get(question, answers[question]) != answers[question]:
                notes.append((len(self.standing), question, self.answers[-1][question], answers[question]))
        self.answers.append(answers)
        self.notes.append(notes)
        return ahead.given if deed[0] in ("look", "late") else None

    def ask(self, name):
        needed = self.state().needed(name)
        self.made += needed - self.kept.get(name, 0)
        self.kept[name] = needed

    def answer(self, question):
        state = self.state()
        name, most = state.wishes[question]
        self.ask(name)
        return len(self.lots(state, name)[-1]) <= most

    def undo(self):
        self.kept = {}
        self.undone.insert(0, (self.standing.pop(), self.answers.pop(), self.notes.pop()))
        return self.undone[0][0]

    def redo(self):
        self.kept = {}
        deed, answers, notes = self.undone.pop(0)
        self.standing.append(deed)
        self.answers.append(answers)
        self.notes.append(notes)
        return deed

    def copied(self):
        other = PlainPost(self.shape)
        other.standing, other.undone = list(self.standing), list(self.undone)
        other.kept, other.made = dict(self.kept), self.made
        other.answers, other.notes = list(self.answers), list(self.notes)
        return other


def chance_name(chance, names):
    """Mostly one of the names, at times any other."""
    if names and chance.random() < 0.85:
        return chance.choice(sorted(names))
    return chance.choice(NAMES) if chance.random() < 0.8 else chance.choice(BAD_NAMES)


def mostly(chance, good, bad):
    return good if chance.random() < 0.93 else chance.choice(bad)


def chance_seen(chance, shape):
    """A look with an answer, at times a wrong one."""
    many, ways = shape
    look = mostly(chance, chance_look(chance, many), no_looks(many))
    if look in no_looks(many):
        return look, chance.choice((0, 1, -1))
    return look, mostly(chance, plain_answer(ways, look, chance.randrange(many)), (-1, 9, 20, 999999999))


def chance_deed(chance, plain):
    """A deed that a post may do, or refuse in each way."""
    many, ways = plain.shape
    state = plain.state()
    word = chance.choice((
        "put", "put", "pace", "drop", "beat", "beat", "beat", "look", "look", "look", "late", "late", "wrong", "wrong",
        "right", "right", "wish", "wish", "unwish",
    ))
    name = chance_name(chance, state.things)
    pace = mostly(chance, chance_pace(chance, many), no_paces(many))
    if word == "put":
        free = chance.choice([name for name in NAMES if name not in state.things])
        name = mostly(chance, free, NAMES * 2 + BAD_NAMES)
        return ("put", name, mostly(chance, chance_lot(chance, many), [()] + no_lots(many)), pace)
    if word == "pace":
        return ("pace", name, pace)
    if word == "drop":
        # Most are left in, else hardly any post would fill.
        return ("drop", name) if chance.random() < 0.3 else ("pace", name, pace)
    if word in ("look", "late"):
        look, answer = chance_seen(chance, plain.shape)
        if word == "look":
            return ("look", name, look, answer)
        return ("late", name, chance.randint(-1, state.beat + 1), look, answer)
    if word in ("wrong", "right"):
        counts = [number for number, row in state.looks.items() if row[4] == (word == "wrong")]
        return (word, chance.choice(counts) if counts and chance.random() < 0.8 else chance.randint(-1, 25))
    if word == "wish":
        free = chance.choice([name for name in NAMES if name not in state.wishes])
        return ("wish", mostly(chance, free, NAMES * 2 + BAD_NAMES), name, mostly(chance, chance.randint(1, 3), (0, -1, 8, 9)))
    if word == "unwish":
        return ("unwish", chance_name(chance, state.wishes))
    return ("beat",)


def post_shapes(turns=6, seed=120):
    chance = random.Random(seed)
    shapes = []
    for turn in range(turns):
        for many in (1, 2, 3, 4, 6, 8):
            shapes.append((many, chance_ways(chance, many)))
    return shapes


def no_deeds():
    """What is no deed."""
    told = [(), [], {}, None, 5, "beat", ["beat"], {"beat": 1}, ("",), ("Beat",), ("beat ",), ("undo",), ("known", "a")]
    told += [([],), ({},), (["beat"],), ({"beat": 1},), ((),), (("beat",),), (None,), (0,), (1, 2, 3), (["put"], "a", (0,), (1, 1))]
    for word, size in SIZES.items():
        told += [(word,) + ("a",) * other for other in range(7) if other != size]
        told += [[word] + ["a"] * size]
    return told
