"""Long rows of deeds, takings back, doings again, batches and questions, against a plain reckoning."""

import random
import unittest

from roamlook.boards import Board
from roamlook.errors import Broken, Late, NothingLeft
from roamlook.pages import page, read_page
from roamlook.posts import Post
from roamlook.stories import known
from roamlook.walks import walk_at

from post_samples import PlainPost, chance_deed, no_deeds, post_shapes


def field_of(error):
    """The field of a refusal beside its word, or None."""
    fields = [worth for name, worth in vars(error).items() if name != "word"]
    return fields[0] if fields else None


class Rows(unittest.TestCase):
    """Each step is done to a post and to the plain one, and all that they tell must be alike."""

    def alike(self, post, plain):
        """All that can be told without asking for lots."""
        state = plain.state()
        self.assertEqual(post.made(), plain.made)
        self.assertEqual({name: post.kept(name) for name in post.things()}, {n: plain.kept.get(n, 0) for n in state.things})
        self.assertEqual(post.now(), state.beat)
        self.assertEqual(post.things(), sorted(state.things))
        self.assertEqual(len(post), len(state.things))
        self.assertEqual(repr(post), f"Post({len(state.things)} things, {len(plain.standing)} deeds)")
        for name in state.things:
            self.assertEqual(post.begun(name), state.things[name]["begun"])
            self.assertEqual(post.story(name), state.story(name))
        rows = [(number, *row) for number, row in sorted(state.looks.items())]
        self.assertEqual(post.looks(), rows)
        self.assertEqual(post.wishes(), [(question, *wish) for question, wish in sorted(state.wishes.items())])
        self.assertEqual(post.notes(), [note for notes in plain.notes for note in notes])
        self.assertEqual(post.deeds(), plain.standing)
        self.assertEqual(post.undone(), [entry[0] for entry in plain.undone])

    def do(self, post, plain, deed):
        refusal = plain.refusal(deed)
        if refusal is None:
            self.assertEqual(post.do(deed), plain.do(deed))
            return deed[0]
        with self.assertRaises(refusal[0], msg=deed) as refused:
            post.do(deed)
        self.assertEqual(field_of(refused.exception), refusal[1], deed)
        return refusal[0].__name__

    def back(self, post, plain):
        if plain.standing:
            self.assertEqual(post.undo(), plain.undo())
            return "undo"
        with self.assertRaises(NothingLeft):
            post.undo()
        return "no undo"

    def again(self, post, plain):
        if plain.undone:
            self.assertEqual(post.redo(), plain.redo())
            return "redo"
        with self.assertRaises(NothingLeft):
            post.redo()
        return "no redo"

    def batch(self, post, plain, chance):
        """Deeds that are made from what stands behind each, so that some batches are done."""
        trial, deeds, told = plain.copied(), [], []
        for number in range(chance.randint(0, 4)):
            deed = chance_deed(chance, trial)
            deeds.append(deed)
            refusal = trial.refusal(deed)
            if refusal is not None:
                deeds.append(("beat",))
                with self.assertRaises(Broken) as refused:
                    post.batch(deeds)
                self.assertEqual(refused.exception.at, number)
                self.assertIs(type(refused.exception.__cause__), refusal[0])
                self.assertEqual(field_of(refused.exception.__cause__), refusal[1])
                return "Broken"
            told.append(trial.do(deed))
        self.assertEqual(post.batch(list(deeds)), told)
        for deed in deeds:
            plain.do(deed)
        return "batch"

    def go(self, post, plain, chance):
        beats = chance.choice((0, 1, 2, 3, 13, 999999999999))
        left = 12 - plain.state().beat
        if beats > left:
            with self.assertRaises(Broken) as refused:
                post.go(beats=beats)
            self.assertEqual(refused.exception.at, left)
            self.assertIs(type(refused.exception.__cause__), Late)
            return "no go"
        self.assertEqual(post.go(beats=beats), [None] * beats)
        for beat in range(beats):
            plain.do(("beat",))
        return "go"

    def question(self, post, plain, chance):
        state = plain.state()
        if not state.things:
            return "nothing to ask"
        name = chance.choice(sorted(state.things))
        word = chance.choice(("forth", "known", "walk", "answer"))
        story = state.story(name)
        if word == "forth":
            self.assertEqual(post.forth(name), plain.lots(state, name))
            plain.ask(name)
        elif word == "known":
            self.assertEqual(post.known(name), known(plain.board, story))
            plain.ask(name)
        elif word == "walk":
            self.assertEqual(post.walk(name), walk_at(plain.board, story))
        elif state.wishes:
            question = chance.choice(sorted(state.wishes))
            self.assertIs(post.answer(question), plain.answer(question))
        return word

    def step(self, post, plain, chance):
        kind = chance.random()
        if kind < 0.66:
            return self.do(post, plain, chance_deed(chance, plain))
        if kind < 0.74:
            return self.back(post, plain)
        if kind < 0.80:
            return self.again(post, plain)
        if kind < 0.85:
            return self.batch(post, plain, chance)
        if kind < 0.86:
            return self.go(post, plain, chance)
        if kind < 0.88:
            return self.do(post, plain, chance.choice(no_deeds()))
        return self.question(post, plain, chance)

    def test_rows(self):
        chance = random.Random(130)
        found = {}
        for shape in post_shapes(12):
            post, plain = Post(Board(*shape)), PlainPost(shape)
            for turn in range(120):
                word = self.step(post, plain, chance)
                found[word] = found.get(word, 0) + 1
                self.alike(post, plain)
            self.twins(post, plain, chance)
            self.through_a_page(post, plain)
            self.all_back_and_again(post, plain)
        for word in (
            "put", "pace", "drop", "beat", "look", "late", "wrong", "right", "wish", "unwish", "BadName", "Taken", "Full",
            "BadLot", "BadPace", "NoThing", "Late", "BadLook", "BadAnswer", "BadBeat", "Unfit", "NoLook", "Wrong", "Right",
            "BadWish", "NoWish", "BadDeed", "undo", "redo", "no redo", "batch", "Broken", "go", "no go", "forth", "known",
            "walk", "answer",
        ):
            self.assertGreater(found.get(word, 0), 3, (word, found))

    def twins(self, post, plain, chance):
        twin, plain_twin = post.twin(), plain.copied()
        self.assertEqual(twin, post)
        self.alike(twin, plain_twin)
        for turn in range(20):
            self.step(post, plain, chance)
            self.alike(twin, plain_twin)
            self.step(twin, plain_twin, chance)
            self.alike(post, plain)

    def through_a_page(self, post, plain):
        read = read_page(page(post))
        self.assertEqual(read, post)
        fresh = PlainPost(plain.shape)
        for deed in plain.standing:
            fresh.do(deed)
        self.alike(read, fresh)
        self.assertEqual(page(read), page(post))

    def all_back_and_again(self, post, plain):
        while plain.standing:
            self.back(post, plain)
            self.alike(post, plain)
        self.back(post, plain)
        while plain.undone:
            self.again(post, plain)
            self.alike(post, plain)
        self.again(post, plain)
        self.alike(post, plain)


if __name__ == "__main__":
    unittest.main()
