"""Scenes: what a post holds between two deeds, and the lots forth that it keeps."""

from roamlook.boards import is_number
from roamlook.errors import NoLook, NoThing, NoWish, Unfit
from roamlook.stories import answering, last_beat, next_lot


class Body:
    """A thing: the beat and the lot in which it began, the paces of its steps so far, and that of the next one."""

    def __init__(self, start, lot, paces, pace):
        self.start = start
        self.lot = lot
        self.paces = paces
        self.pace = pace

    def paced(self, pace):
        """Tell the thing with another pace from now on."""
        return Body(self.start, self.lot, self.paces, pace)

    def moved(self):
        """Tell the thing behind one step more."""
        return Body(self.start, self.lot, self.paces + (self.pace,), self.pace)


class Scene:
    """The beat, things, looks and wishes; beside them the kept lots, and how many were made."""

    def __init__(self, board):
        self.ground = board
        self.beat = 0
        self.bodies = {}
        self.seen = {}
        self.numbered = 0
        self.wants = {}
        self.told = {}
        self.lots = {}
        self.count = 0

    def copied(self):
        """Tell a scene that goes its own way."""
        other = self.emptied(self.count)
        other.lots = {name: list(lots) for name, lots in self.lots.items()}
        return other

    def emptied(self, count):
        """Tell a scene that goes its own way, without any kept lots, and with this count of made ones."""
        other = Scene(self.ground)
        other.beat = self.beat
        other.bodies = dict(self.bodies)
        other.seen = dict(self.seen)
        other.numbered = self.numbered
        other.wants = dict(self.wants)
        other.told = dict(self.told)
        other.count = count
        return other

    def body_of(self, name):
        """Tell the thing of this name."""
        if name not in self.bodies:
            raise NoThing(name)
        return self.bodies[name]

    def row_of(self, number):
        """Tell the look of this number: (number, name, beat, look, answer, counts)."""
        if not is_number(number) or number not in self.seen:
            raise NoLook(number)
        return self.seen[number]

    def want_of(self, question):
        """Tell the wish of this name: (name of the thing, most)."""
        if question not in self.wants:
            raise NoWish(question)
        return self.wants[question]

    def story_of(self, name):
        """Tell the story of a thing up to now, its beats counted from its beginning."""
        body = self.body_of(name)
        rows = [self.seen[number] for number in sorted(self.seen)]
        seen = [
            (beat - body.start, look, answer)
            for number, owner, beat, look, answer, counts in rows if owner == name and counts
        ]
        return (body.lot, body.paces, tuple(seen))

    def lots_of(self, name):
        """Ask the lots forth of a thing up to now: those that lack are made and counted."""
        story = self.story_of(name)
        kept = list(self.lots.get(name, []))
        if len(kept) <= last_beat(story):
            fitting = answering(self.ground, story)
            while len(kept) <= last_beat(story):
                kept.append(next_lot(self.ground, story, fitting, kept))
                self.count += 1
            self.lots[name] = list(kept)
        return kept

    def kept_count(self, name):
        """Tell how many lots of a thing are kept."""
        return len(self.lots.get(name, []))

    def let_go(self, name, beat):
        """Let go of the kept lots of a thing from a beat of the post on."""
        self.lots[name] = self.lots.get(name, [])[:beat - self.bodies[name].start]

    def check_fit(self, name):
        """Refuse where at some beat up to now no place is left forth."""
        for at, lot in enumerate(self.lots_of(name)):
            if len(lot) == 0:
                raise Unfit(self.bodies[name].start + at)

    def answer_of(self, question):
        """Tell whether a wish's thing is now known to be in so few places as wished."""
        name, most = self.want_of(question)
        # At the last beat just the places forth are known.
        return len(self.lots_of(name)[-1]) <= most

    def turned(self, before, standing):
        """Let each wish ask; tell a note of each whose answer before has turned by the last of so many deeds."""
        self.told = {question: self.answer_of(question) for question in sorted(self.wants)}
        return [
            (standing, question, before[question], now)
            for question, now in self.told.items() if before.get(question, now) != now
        ]
