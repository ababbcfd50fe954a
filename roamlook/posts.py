"""Posts: things that are put in, move and are looked at, deed by deed, and what is known of them now."""

from roamlook.boards import MOST_PLACES, check_filled_lot, is_between, is_number
from roamlook.deeds import is_deed
from roamlook.errors import (
    BadAnswer, BadBeat, BadDeed, BadName, BadWish, Broken, Full, Late, Missing, NothingLeft, Right, RoamError, Taken,
    Wrong,
)
from roamlook.looks import answers
from roamlook.paces import MOST_BEATS, check_pace, even
from roamlook.scenes import Body, Scene
from roamlook.stories import back, meet
from roamlook.texts import is_name
from roamlook.walks import walk_at

MOST_THINGS = 6
MOST_WISHES = 6
MOST_LOOKS = 24
MOST_NAME = 8


def check_new_name(name, taken, most):
    """Refuse what is no name, one that is taken, and one beyond so many."""
    if not is_name(name, MOST_NAME):
        raise BadName(name)
    if name in taken:
        raise Taken(name)
    if len(taken) >= most:
        raise Full()


def do_put(scene, parts):
    """Put a thing in."""
    name, lot, pace = parts
    check_new_name(name, scene.bodies, MOST_THINGS)
    check_filled_lot(scene.ground, lot)
    check_pace(scene.ground, pace)
    scene.bodies[name] = Body(scene.beat, lot, (), pace)


def do_pace(scene, parts):
    """Give a thing another pace from now on."""
    name, pace = parts
    body = scene.body_of(name)
    check_pace(scene.ground, pace)
    scene.bodies[name] = body.paced(pace)


def do_drop(scene, parts):
    """Take a thing out, with its looks, its wishes and its kept lots."""
    name = parts[0]
    scene.body_of(name)
    scene.bodies.pop(name)
    scene.seen = {number: row for number, row in scene.seen.items() if row[1] != name}
    scene.wants = {question: want for question, want in scene.wants.items() if want[0] != name}
    scene.lots = {other: lots for other, lots in scene.lots.items() if other != name}


def do_beat(scene, parts):
    """Let time go one beat on."""
    if scene.beat >= MOST_BEATS:
        raise Late()
    scene.beat += 1
    scene.bodies = {name: body.moved() for name, body in scene.bodies.items()}


def do_look(scene, parts):
    """See a thing now."""
    name, look, answer = parts
    scene.body_of(name)
    return see(scene, name, scene.beat, look, answer)


def do_late(scene, parts):
    """See a thing at a beat from its beginning to now."""
    name, beat, look, answer = parts
    if not is_between(beat, scene.body_of(name).start, scene.beat):
        raise BadBeat(beat)
    return see(scene, name, beat, look, answer)


def see(scene, name, beat, look, answer):
    """Give a look its number where it fits."""
    if answer not in answers(scene.ground, look) or not is_number(answer):
        raise BadAnswer()
    if scene.numbered >= MOST_LOOKS:
        raise Full()
    number = scene.numbered
    scene.numbered += 1
    scene.seen[number] = (number, name, beat, look, answer, True)
    scene.let_go(name, beat)
    scene.check_fit(name)
    return number


def do_wrong(scene, parts):
    """Take a look to be wrong."""
    row = scene.row_of(parts[0])
    if not row[5]:
        raise Wrong(parts[0])
    count_look(scene, row, False)


def do_right(scene, parts):
    """Let a look count again where it fits."""
    row = scene.row_of(parts[0])
    if row[5]:
        raise Right(parts[0])
    count_look(scene, row, True)
    scene.check_fit(row[1])


def count_look(scene, row, counts):
    """Let a look count or not from now on."""
    number, name, beat, look, answer, counted = row
    scene.seen[number] = (number, name, beat, look, answer, counts)
    scene.let_go(name, beat)


def do_wish(scene, parts):
    """Ask from now on whether a thing is known to be in at most so many places."""
    question, name, most = parts
    check_new_name(question, scene.wants, MOST_WISHES)
    scene.body_of(name)
    if not is_between(most, 1, MOST_PLACES):
        raise BadWish(most)
    scene.wants[question] = (name, most)


def do_unwish(scene, parts):
    """Ask it no more."""
    scene.want_of(parts[0])
    scene.wants.pop(parts[0])


ACTIONS = {
    "put": do_put, "pace": do_pace, "drop": do_drop, "beat": do_beat, "look": do_look, "late": do_late,
    "wrong": do_wrong, "right": do_right, "wish": do_wish, "unwish": do_unwish,
}


class Post:
    """A board with things on it, looks and wishes; deeds stand, are taken back and done again."""

    def __init__(self, board):
        self.scene = Scene(board)
        # Each entry is a deed, the scene behind it and its notes; those taken back last stand last.
        self.entries = []
        self.later = []

    def do(self, deed):
        """Do a deed; tell the number of a look or a late, else None."""
        if not is_deed(deed):
            raise BadDeed()
        # A refused deed leaves this copy behind, and all else as it was.
        scene = self.scene.copied()
        action = ACTIONS[deed[0]]
        told = action(scene, deed[1:])
        notes = scene.turned(self.scene.told, len(self.entries) + 1)
        self.scene = scene
        self.entries.append((deed, scene, notes))
        self.later = []
        return told

    def batch(self, deeds):
        """Do all of a list of deeds, or none; tell what each tells."""
        spare = self.twin()
        told = []
        for at, deed in enumerate(deeds):
            try:
                told.append(spare.do(deed))
            except (RoamError, Missing) as why:
                raise Broken(at) from why
        self.take(spare)
        return told

    def put(self, name, lot, *, pace=None):
        """Put a thing in, with the pace 1 everywhere where none is told."""
        return self.do(("put", name, lot, even(self.scene.ground, 1) if pace is None else pace))

    def look(self, name, look, *, answer=1):
        """See a thing now; tell the number of the look."""
        return self.do(("look", name, look, answer))

    def late(self, name, beat, look, *, answer=1):
        """See a thing at a beat up to now; tell the number of the look."""
        return self.do(("late", name, beat, look, answer))

    def wish(self, question, name, *, most=1):
        """Ask from now on whether a thing is known to be in at most so many places."""
        return self.do(("wish", question, name, most))

    def go(self, *, beats=1):
        """Let time go so many beats on, as one batch."""
        # More beats than there can be are refused at the same place, however many they are.
        return self.batch([("beat",)] * min(beats, MOST_BEATS + 1))

    def undo(self):
        """Take back the last deed that stands, and tell it."""
        if not self.entries:
            raise NothingLeft()
        entry = self.entries.pop()
        self.later.append(entry)
        scene = self.entries[-1][1] if self.entries else Scene(self.scene.ground)
        self.scene = scene.emptied(self.scene.count)
        return entry[0]

    def redo(self):
        """Do again what was taken back last, and tell it."""
        if not self.later:
            raise NothingLeft()
        entry = self.later.pop()
        self.entries.append(entry)
        self.scene = entry[1].emptied(self.scene.count)
        return entry[0]

    def board(self):
        """Tell the board."""
        return self.scene.ground

    def now(self):
        """Tell the beat."""
        return self.scene.beat

    def things(self):
        """Tell the names of the things, rising."""
        return sorted(self.scene.bodies)

    def begun(self, name):
        """Tell the beat at which a thing was put in."""
        return self.scene.body_of(name).start

    def story(self, name):
        """Tell the story of a thing up to now."""
        return self.scene.story_of(name)

    def forth(self, name):
        """Tell the lots forth of a thing up to now."""
        return self.scene.lots_of(name)

    def known(self, name):
        """Tell the lots known of a thing up to now."""
        ahead_lots = self.scene.lots_of(name)
        return [meet(one, other) for one, other in zip(ahead_lots, back(self.scene.ground, self.story(name)))]

    def walk(self, name):
        """Tell the first walk of a thing that fits."""
        return walk_at(self.scene.ground, self.story(name))

    def kept(self, name):
        """Tell how many lots of a thing are kept."""
        self.scene.body_of(name)
        return self.scene.kept_count(name)

    def made(self):
        """Tell how many lots were made."""
        return self.scene.count

    def looks(self):
        """Tell the looks by their numbers: (number, name, beat, look, answer, counts)."""
        return [self.scene.seen[number] for number in sorted(self.scene.seen)]

    def wishes(self):
        """Tell the wishes, rising: (question, name, most)."""
        return [(question,) + self.scene.wants[question] for question in sorted(self.scene.wants)]

    def answer(self, question):
        """Tell whether the thing of a wish is known to be in so few places now."""
        return self.scene.answer_of(question)

    def notes(self):
        """Tell the notes of all deeds that stand: (deeds, question, before, now)."""
        return [note for deed, scene, notes in self.entries for note in notes]

    def deeds(self):
        """Tell the deeds that stand."""
        return [deed for deed, scene, notes in self.entries]

    def undone(self):
        """Tell the deeds that could be done again, the next one first."""
        return [deed for deed, scene, notes in self.later[::-1]]

    def twin(self):
        """Tell a post that has all of this one, and goes its own way."""
        other = Post(self.scene.ground)
        other.take(self)
        return other

    def take(self, other):
        """Take all of another post."""
        self.scene = other.scene.copied()
        self.entries = list(other.entries)
        self.later = list(other.later)

    def __eq__(self, other):
        return isinstance(other, Post) and self.scene.ground == other.scene.ground and self.deeds() == other.deeds()

    def __len__(self):
        return len(self.scene.bodies)

    def __repr__(self):
        return f"Post({len(self.scene.bodies)} things, {len(self.entries)} deeds)"
