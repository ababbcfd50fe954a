"""A desk: a post that is spoken to line by line."""

from roamlook.boards import is_between
from roamlook.deeds import deed_text, read_deed, read_parts
from roamlook.errors import BadBeat, BadText, Missing, NothingLeft, RoamError
from roamlook.posts import Post
from roamlook.texts import lot_text

QUESTIONS = {
    "undo": (), "redo": (), "known": ("name",), "forth": ("name",), "then": ("name", "number"), "walk": ("name",),
    "wishes": (), "notes": (),
}


class Desk:
    """Does deeds and answers questions that are written in lines."""

    def __init__(self, board):
        self.held = Post(board)

    def post(self):
        """Tell the post, the very one all along."""
        return self.held

    def say(self, line):
        """Answer a line."""
        try:
            return self.reply(line)
        except BadText:
            return "no line"
        except (RoamError, Missing, NothingLeft) as why:
            return f"no {why.word}"

    def reply(self, line):
        """Answer a line; refuse one that is not so written."""
        words = line.split(" ")
        if words[0] not in QUESTIONS:
            return self.do_line(line)
        parts = read_parts(QUESTIONS[words[0]], words[1:])
        if words[0] == "undo":
            return deed_text(self.held.undo())
        if words[0] == "redo":
            return deed_text(self.held.redo())
        if words[0] == "wishes":
            return self.wishes_text()
        if words[0] == "notes":
            return str(len(self.held.notes()))
        return self.reply_of_thing(words[0], parts)

    def do_line(self, line):
        """Do the deed that is written in a line."""
        number = self.held.do(read_deed(line))
        return "done" if number is None else f"done {number}"

    def reply_of_thing(self, word, parts):
        """Answer a question that asks of a thing."""
        name = parts[0]
        if word == "known":
            return lot_text(self.held.known(name)[-1])
        if word == "forth":
            return lot_text(self.held.forth(name)[-1])
        if word == "walk":
            return " ".join([str(place) for place in self.held.walk(name)])
        return self.then_text(name, parts[1])

    def then_text(self, name, beat):
        """Write the lot known of a thing at a beat of the post."""
        begun = self.held.begun(name)
        # Refused ahead of asking, so that no lots are made for it.
        if not is_between(beat, begun, self.held.now()):
            raise BadBeat(beat)
        return lot_text(self.held.known(name)[beat - begun])

    def wishes_text(self):
        """Write each wish's name and answer."""
        questions = [question for question, name, most in self.held.wishes()]
        told = [question + (":yes" if self.held.answer(question) else ":no") for question in questions]
        return " ".join(told) if told else "none"
